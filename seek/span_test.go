package seek

import (
	"bytes"
	"fmt"
	"math"
	"slices"
	"testing"

	"marlstone/api"
	"marlstone/tree"
)

func sameSpan(r, s api.Span) bool {
	return r.From == s.From && slices.EqualFunc(r.Leaves, s.Leaves, bytes.Equal) && slices.Equal(r.Path, s.Path)
}

func cloneSpan(s api.Span) api.Span {
	c := api.Span{From: s.From, Path: slices.Clone(s.Path)}
	for _, leaf := range s.Leaves {
		c.Leaves = append(c.Leaves, bytes.Clone(leaf))
	}
	return c
}

// spanned is the span of keys that are covered.
func spanned(t *testing.T, w tree.Tree, l []api.Entry, lo, hi string) api.Span {
	t.Helper()
	s, err := ProveSpan(w, l, lo, hi)
	if err != api.OK {
		t.Fatalf("ProveSpan from %q to %q: %v", lo, hi, err)
	}
	return s
}

// refusedSpan asks that s shows nothing.
func refusedSpan(t *testing.T, w tree.Tree, x api.Table, lo, hi string, s api.Span, what string) {
	t.Helper()
	if l, err := CheckSpan(w, x, lo, hi, s); err != api.ErrProof || l != nil {
		t.Errorf("CheckSpan from %q to %q, %s: %v, %v", lo, hi, what, l, err)
	}
}

// heldCheckSpan holds CheckSpan against the model, and tells what both say.
func heldCheckSpan(t *testing.T, w tree.Tree, x api.Table, lo, hi string, s api.Span, what string) ([]api.Entry, api.Errno) {
	t.Helper()
	l, err := CheckSpan(w, x, lo, hi, s)
	want, wantErr := modelCheckSpan(w.Bits, x, lo, hi, s)
	if err != wantErr || !slices.Equal(l, want) {
		t.Errorf("CheckSpan from %q to %q, %d bits, %s: %v, %v, not %v, %v: %.300v", lo, hi, w.Bits, what, l, err, want, wantErr, s)
	}
	return l, err
}

// L3: the chapter's example, and the other ranges of that list.
func TestSpanExample(t *testing.T) {
	l, x := two(), described(t, whole, two())
	a, c := []byte("\x00\x01\x01a\x00"), []byte("\x00\x02\x01c\x00")
	both := api.Span{From: 0, Leaves: [][]byte{a, c}}
	first := api.Span{From: 0, Leaves: [][]byte{a}, Path: []api.Digest{digest(sumC)}}
	last := api.Span{From: 1, Leaves: [][]byte{c}, Path: []api.Digest{digest(sumA)}}
	for _, w := range []struct {
		lo, hi string
		want   api.Span
		found  []api.Entry
	}{
		{"b", "c", both, nil},
		{"b", "d", both, l[1:]},
		{"b", "", both, l[1:]},
		{"", "", both, l},
		{"", "b", both, l[:1]},
		{"a", "c", both, l[:1]},
		{"a", "d", both, l},
		{"a", "a\x00", both, l[:1]},
		{"c", "d", both, l[1:]},
		{"c", "", both, l[1:]},
	} {
		s, err := ProveSpan(whole, l, w.lo, w.hi)
		if err != api.OK || !sameSpan(s, w.want) {
			t.Errorf("ProveSpan from %q to %q: %v, %v", w.lo, w.hi, s, err)
		}
		if found, err := CheckSpan(whole, x, w.lo, w.hi, w.want); err != api.OK || !slices.Equal(found, w.found) {
			t.Errorf("CheckSpan from %q to %q: %v, %v", w.lo, w.hi, found, err)
		}
	}
	for _, w := range [][2]string{{"", "a"}, {"A", "a"}, {"d", ""}, {"c\x00", ""}, {"d", "e"}, {"b", "b"}, {"a", "a"}, {"c", "b"}, {"c", "a"}, {"", "A"}} {
		if s, err := ProveSpan(whole, l, w[0], w[1]); err != api.ErrNone || !sameSpan(s, api.Span{}) {
			t.Errorf("ProveSpan from %q to %q: %v, %v", w[0], w[1], s, err)
		}
		for _, s := range []api.Span{both, first, last, {}} {
			refusedSpan(t, whole, x, w[0], w[1], s, "not covered")
		}
	}
	refusedSpan(t, whole, x, "", "a\x00", first, "without the one behind")
	refusedSpan(t, whole, x, "c", "", last, "without the one ahead")
}

// L3: how far spans go: with the one ahead and the one behind, where there are these two.
func TestSpanEnds(t *testing.T) {
	l := many(9) // k000, k002, ... k016
	x := described(t, whole, l)
	for _, w := range []struct {
		lo, hi             string
		from, to           int // the span's places
		foundFrom, foundTo int
	}{
		{"", "", 0, 9, 0, 9},
		{"k000", "", 0, 9, 0, 9},
		{"k000", "k016", 0, 9, 0, 8},
		{"k000", "k016\x00", 0, 9, 0, 9},
		{"", "k000\x00", 0, 2, 0, 1},
		{"", "k004", 0, 3, 0, 2},
		{"", "k005", 0, 4, 0, 3},
		{"k000\x00", "k002", 0, 2, 1, 1},
		{"k001", "k001\x00", 0, 2, 1, 1},
		{"k002", "k002\x00", 0, 3, 1, 2},
		{"k002", "k004", 0, 3, 1, 2},
		{"k004", "k004\x00", 1, 4, 2, 3},
		{"k005", "k006", 2, 4, 3, 3},
		{"k005", "k007", 2, 5, 3, 4},
		{"k006", "k012", 2, 7, 3, 6},
		{"k006", "k013", 2, 8, 3, 7},
		{"k014", "k016", 6, 9, 7, 8},
		{"k014", "k016\x00", 6, 9, 7, 9},
		{"k014", "", 6, 9, 7, 9},
		{"k015", "k016", 7, 9, 8, 8},
		{"k015", "", 7, 9, 8, 9},
		{"k016", "", 7, 9, 8, 9},
		{"k016", "k016\x00", 7, 9, 8, 9},
		{"k016", "z", 7, 9, 8, 9},
	} {
		s := spanned(t, whole, l, w.lo, w.hi)
		want := api.Span{From: w.from, Leaves: rawLeaves(l)[w.from:w.to], Path: modelBeside(256, rawLeaves(l), w.from, w.to)}
		if !sameSpan(s, want) {
			t.Errorf("ProveSpan from %q to %q: %v", w.lo, w.hi, s)
		}
		if found, err := CheckSpan(whole, x, w.lo, w.hi, s); err != api.OK || !slices.Equal(found, l[w.foundFrom:w.foundTo]) {
			t.Errorf("CheckSpan from %q to %q: %v, %v", w.lo, w.hi, found, err)
		}
	}
}

// L3: lists that are not fit, whatever the keys: ErrArg comes first.
func TestProveSpanOfNoFitList(t *testing.T) {
	for _, l := range notFit() {
		for _, w := range [][2]string{{"", ""}, {"a", "z"}, {"k002", "k004"}, {"k003", ""}, {"z", "a"}, {"z", ""}, {"", "\x00"}, {"a", "a"}} {
			if s, err := ProveSpan(whole, l, w[0], w[1]); err != api.ErrArg || !sameSpan(s, api.Span{}) {
				t.Errorf("ProveSpan from %q to %q of %.200v: %v, %v", w[0], w[1], l, s, err)
			}
		}
	}
}

// thinned is every n-th of the keys.
func thinned(keys []string, n int) []string {
	var some []string
	for i := 0; i < len(keys); i += n {
		some = append(some, keys[i])
	}
	return some
}

// L3: from each key to each key, hi that is lo or below it too; every span is checked.
func TestProveAndCheckSpan(t *testing.T) {
	for _, l := range lists() {
		bits, keys := []int{0, 8, 256}, asked(l)
		switch {
		case len(l) > 9:
			bits, keys = []int{8, 256}, thinned(keys, 11)
		case len(l) < 4:
			bits = keeps
		}
		for _, keep := range bits {
			w := tree.Tree{Bits: keep}
			x := described(t, w, l)
			for _, lo := range keys {
				for _, hi := range keys {
					checkSpan(t, w, x, l, lo, hi)
				}
				checkSpan(t, w, x, l, lo, "")
			}
		}
	}
}

func checkSpan(t *testing.T, w tree.Tree, x api.Table, l []api.Entry, lo, hi string) {
	t.Helper()
	s, err := ProveSpan(w, l, lo, hi)
	want, wantErr := modelProveSpan(w.Bits, l, lo, hi)
	if err != wantErr || !sameSpan(s, want) {
		t.Errorf("ProveSpan from %q to %q of %d entries, %d bits: %v, %v, not %v, %v", lo, hi, len(l), w.Bits, s, err, want, wantErr)
	}
	if (err == api.OK) != Overlaps(x, lo, hi) {
		t.Errorf("ProveSpan from %q to %q of %d entries: %v, and Overlaps %v", lo, hi, len(l), err, Overlaps(x, lo, hi))
	}
	found, err := heldCheckSpan(t, w, x, lo, hi, s, "its own span")
	if !Overlaps(x, lo, hi) {
		if err != api.ErrProof || found != nil {
			t.Errorf("CheckSpan from %q to %q beside the table: %v, %v", lo, hi, found, err)
		}
		return
	}
	if err != api.OK || !slices.Equal(found, modelFound(l, lo, hi)) {
		t.Errorf("CheckSpan from %q to %q of %d entries, %d bits: %v, %v", lo, hi, len(l), w.Bits, found, err)
	}
}

// L3: a span of other keys is taken, if it goes as far as it must, and tells all that is asked for then.
func TestCheckSpanOfOtherKeys(t *testing.T) {
	for _, l := range [][]api.Entry{two(), growing(4), many(1), many(3), many(4)} {
		x := described(t, whole, l)
		keys := thinned(asked(l), 2)
		for _, mineLo := range keys {
			for _, mineHi := range keys {
				s, err := ProveSpan(whole, l, mineLo, mineHi)
				if err != api.OK {
					continue
				}
				for _, lo := range keys {
					for _, hi := range keys {
						found, err := heldCheckSpan(t, whole, x, lo, hi, s, "another one's span")
						if err == api.OK && !slices.Equal(found, modelFound(l, lo, hi)) {
							t.Errorf("CheckSpan from %q to %q by a span from %q to %q: %v", lo, hi, mineLo, mineHi, found)
						}
					}
				}
			}
		}
	}
}

// exact is the span of the places from from to to - 1.
func exact(l []api.Entry, from, to int) api.Span {
	leaves := rawLeaves(l)
	return api.Span{From: from, Leaves: leaves[from:to], Path: modelBeside(256, leaves, from, to)}
}

// L3: right spans of too few leaves, and of more than Prove tells: none may hide an entry, and any that hides none is taken.
func TestCheckSpanOfEachPart(t *testing.T) {
	l := many(7)
	x := described(t, whole, l)
	for _, lo := range asked(l) {
		for _, hi := range asked(l) {
			if !Overlaps(x, lo, hi) {
				continue
			}
			need := spanned(t, whole, l, lo, hi)
			end := need.From + len(need.Leaves)
			for from := range len(l) {
				for to := from + 1; to <= len(l); to++ {
					_, err := heldCheckSpan(t, whole, x, lo, hi, exact(l, from, to), "a part")
					if (err == api.OK) != (from <= need.From && to >= end) {
						t.Errorf("CheckSpan from %q to %q, the places %d to %d: %v", lo, hi, from, to, err)
					}
				}
			}
		}
	}
}

// otherSpans are spans of which one thing is not as in s, a span of l.
func otherSpans(l []api.Entry, s api.Span) []api.Span {
	var all []api.Span
	for _, from := range []int{math.MinInt, -s.From - 1, -1, 0, 1, s.From - 1, s.From + 1, len(l) - len(s.Leaves) + 1, len(l) - 1, len(l), len(l) + 1, math.MaxInt - len(s.Leaves), math.MaxInt - 1, math.MaxInt} {
		all = append(all, api.Span{From: from, Leaves: s.Leaves, Path: s.Path})
	}
	for i, leaf := range s.Leaves {
		for _, other := range otherLeaves(leaf) {
			leaves := slices.Clone(s.Leaves)
			leaves[i] = other
			all = append(all, api.Span{From: s.From, Leaves: leaves, Path: s.Path})
		}
		all = append(all, api.Span{From: s.From, Leaves: slices.Delete(slices.Clone(s.Leaves), i, i+1), Path: s.Path})
		all = append(all, api.Span{From: s.From, Leaves: slices.Insert(slices.Clone(s.Leaves), i, leaf), Path: s.Path})
		if i > 0 {
			leaves := slices.Clone(s.Leaves)
			leaves[i], leaves[i-1] = leaves[i-1], leaves[i]
			all = append(all, api.Span{From: s.From, Leaves: leaves, Path: s.Path})
		}
	}
	// One more at either end, and one fewer, with the place as it was, and as it would be then.
	more := []byte(rawLeaf(api.Entry{Key: "zz", Seq: 1}))
	less := []byte(rawLeaf(api.Entry{Key: "\x00", Seq: 1}))
	all = append(all,
		api.Span{From: s.From, Leaves: append(slices.Clone(s.Leaves), more), Path: s.Path},
		api.Span{From: s.From, Leaves: append(slices.Clone(s.Leaves), nil), Path: s.Path},
		api.Span{From: s.From, Leaves: slices.Insert(slices.Clone(s.Leaves), 0, less), Path: s.Path},
		api.Span{From: s.From - 1, Leaves: slices.Insert(slices.Clone(s.Leaves), 0, less), Path: s.Path},
		api.Span{From: s.From + 1, Leaves: s.Leaves[1:], Path: s.Path},
		api.Span{From: s.From, Path: s.Path},
		api.Span{From: s.From, Leaves: [][]byte{}, Path: s.Path},
		api.Span{From: s.From},
		api.Span{})
	for _, path := range otherPaths(s.Path) {
		all = append(all, api.Span{From: s.From, Leaves: s.Leaves, Path: path})
	}
	return slices.DeleteFunc(all, func(r api.Span) bool { return sameSpan(r, s) })
}

// L3: spans of which one thing is another one. Where sums keep all bits none is taken; where they keep less, those that the words take.
func TestCheckSpanOfOtherSpans(t *testing.T) {
	for _, l := range few() {
		keys := asked(l)
		if len(l) > 2 {
			keys = thinned(keys, 6)
		}
		for _, keep := range []int{0, 2, 256} {
			w := tree.Tree{Bits: keep}
			x := described(t, w, l)
			for _, lo := range keys {
				for _, hi := range keys {
					s, err := ProveSpan(w, l, lo, hi)
					if err != api.OK {
						continue
					}
					for _, r := range otherSpans(l, s) {
						if _, err := heldCheckSpan(t, w, x, lo, hi, r, "another span"); keep == 256 && err == api.OK {
							t.Errorf("CheckSpan from %q to %q, %d entries: taken: %.300v", lo, hi, len(l), r)
						}
					}
				}
			}
		}
	}
}

// L3: a table of another Root or Count, or with other ends.
func TestCheckSpanOfOtherTables(t *testing.T) {
	for _, l := range few() {
		for _, keep := range []int{0, 2, 256} {
			w := tree.Tree{Bits: keep}
			x := described(t, w, l)
			keys := thinned(asked(l), 3)
			for _, lo := range keys {
				for _, hi := range keys {
					s, err := ProveSpan(w, l, lo, hi)
					if err != api.OK {
						continue
					}
					for _, bit := range []int{0, 1, 100, 255} {
						y := x
						y.Root[bit/8] ^= 0x80 >> (bit % 8)
						refusedSpan(t, w, y, lo, hi, s, "another root")
					}
					for _, count := range []int{math.MinInt, -1, 0, 1, len(s.Leaves) - 1, s.From, s.From + len(s.Leaves) - 1, len(l) - 1, len(l) + 1, 2 * len(l), 64, 1 << 40, math.MaxInt} {
						y := x
						y.Count = count
						_, err := heldCheckSpan(t, w, y, lo, hi, s, fmt.Sprint("count ", count))
						if count < s.From+len(s.Leaves) && err == api.OK {
							t.Errorf("CheckSpan from %q to %q: %d leaves from %d of %d", lo, hi, len(s.Leaves), s.From, count)
						}
					}
					for _, first := range keys {
						y := x
						y.First = first
						heldCheckSpan(t, w, y, lo, hi, s, "another first one")
						y.First, y.Last = x.First, first
						heldCheckSpan(t, w, y, lo, hi, s, "another last one")
					}
				}
			}
		}
	}
	// All leaves with another count: of a count that is greater there may be more behind.
	l := many(3)
	x := described(t, whole, l)
	s := spanned(t, whole, l, "", "")
	for _, count := range []int{0, 1, 2, 4, 5, 64} {
		y := x
		y.Count = count
		refusedSpan(t, whole, y, "", "", s, fmt.Sprint("of three leaves, count ", count))
	}
}

// allOf is the span of all leaves, which has no path.
func allOf(leaves ...[]byte) api.Span { return api.Span{Leaves: leaves} }

// L3: leaves that are under the root, and are not Bytes of just one entry, or do not rise.
func TestCheckSpanOfOddLeaves(t *testing.T) {
	leaf := func(key string) []byte { return []byte(rawLeaf(api.Entry{Key: key, Seq: 1})) }
	for _, keep := range []int{0, 256} {
		w := tree.Tree{Bits: keep}
		for what, bad := range odd() {
			for _, leaves := range [][][]byte{{bad}, {bad, leaf("d")}, {leaf("a"), bad}, {leaf("a"), bad, leaf("d")}} {
				x := underRoot(w, leaves...)
				refusedSpan(t, w, x, "", "", allOf(leaves...), what)
				refusedSpan(t, w, x, "b", "c", allOf(leaves...), what)
				// Beside what is asked for it must be right, too.
				refusedSpan(t, w, x, "d", "e", allOf(leaves...), what)
			}
		}
		for _, keys := range [][]string{{"b", "a"}, {"a", "a"}, {"a", "c", "b"}, {"b", "a", "c"}, {"a", "b", "b"}, {"a", "a", "b"}, {"\x80", "\x7f"}, {"ab", "a"}, {"a", "b", "c", "b"}} {
			var leaves [][]byte
			for _, key := range keys {
				leaves = append(leaves, leaf(key))
			}
			x := underRoot(w, leaves...)
			refusedSpan(t, w, x, "", "", allOf(leaves...), fmt.Sprint("keys ", keys))
			refusedSpan(t, w, x, "a", "b", allOf(leaves...), fmt.Sprint("keys ", keys))
		}
		leaves := [][]byte{leaf("a"), leaf("b"), leaf("d")}
		x := underRoot(w, leaves...)
		if l, err := CheckSpan(w, x, "b", "c", allOf(leaves...)); err != api.OK || !slices.Equal(l, []api.Entry{{Key: "b", Seq: 1}}) {
			t.Errorf("CheckSpan of right leaves: %v, %v", l, err)
		}
	}
}

// L3: more leaves than a table may have are held against Count alone.
func TestCheckSpanOfManyLeaves(t *testing.T) {
	for _, n := range []int{65, 200} {
		l := many(n)
		leaves := rawLeaves(l)
		x := underRoot(whole, leaves...)
		if found, err := CheckSpan(whole, x, "", "", allOf(leaves...)); err != api.OK || !slices.Equal(found, l) {
			t.Errorf("CheckSpan of %d leaves: %v, %v", n, found, err)
		}
		x.Count--
		refusedSpan(t, whole, x, "", "", allOf(leaves...), "more than Count")
	}
}

// L3: places at the greatest numbers, in a tree of so many leaves that nobody has them.
func TestCheckSpanAtTheGreatestPlaces(t *testing.T) {
	none := tree.Tree{Bits: 0}
	leaves := rawLeaves(two())
	x := api.Table{Count: math.MaxInt, First: "a", Last: "c"}
	taken := 0
	for at := range 4 {
		for path := range 140 {
			s := api.Span{From: math.MaxInt - at, Leaves: leaves, Path: make([]api.Digest, path)}
			for _, w := range [][2]string{{"b", ""}, {"a", ""}, {"b", "c"}, {"b", "d"}} {
				if _, err := heldCheckSpan(t, none, x, w[0], w[1], s, fmt.Sprint("place ", s.From)); err == api.OK {
					taken++
				}
			}
		}
	}
	// With the last two: from b on, to c, to d; with one behind: to c alone.
	if taken != 4 {
		t.Errorf("CheckSpan at the greatest places: taken %d times", taken)
	}
}
