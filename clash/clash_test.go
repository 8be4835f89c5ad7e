package clash

import (
	"bytes"
	"crypto/sha256"
	"fmt"
	"math"
	"slices"
	"strings"
	"testing"

	"marlstone/api"
	"marlstone/tree"
)

// counts are those that the tests take lists of.
var counts = []int{0, 1, 2, 3, 4, 5, 6, 7, 8, 9, 13}

// keeps are numbers of bits: those that there are, and some below and above.
var keeps = []int{math.MinInt, -256, -1, 0, 1, 2, 4, 7, 8, 9, 100, 255, 256, 257, 512, math.MaxInt}

// noBits and allBits are those of them that keep nothing and all.
var (
	noBits  = []int{math.MinInt, -256, -1, 0}
	allBits = []int{256, 257, 512, math.MaxInt}
)

// unlike are n leaves of which no two are the same, the first one empty.
func unlike(n int) [][]byte {
	var l [][]byte
	for i := range n {
		l = append(l, bytes.Repeat([]byte{byte(i)}, i))
	}
	return l
}

// alike are n leaves that are all the same.
func alike(n int, b []byte) [][]byte {
	var l [][]byte
	for range n {
		l = append(l, bytes.Clone(b))
	}
	return l
}

// lists are leaves of many kinds: unlike ones, like ones, empty ones, some like each other, and some that look like a node's text.
func lists(n int) [][][]byte {
	var some, nodes [][]byte
	for i := range n {
		some = append(some, []byte{byte(i % 3)}[:min(i%3, 1)])
		nodes = append(nodes, []byte("\x01"+strings.Repeat(string(rune('a'+i%2)), 64)))
	}
	return [][][]byte{unlike(n), alike(n, []byte("a")), alike(n, nil), alike(n, []byte{}), some, nodes}
}

func abc() [][]byte { return [][]byte{[]byte("a"), []byte("b"), []byte("c")} }

// leaf and digest are others from number to number.
func leaf(c int) []byte { return fmt.Append(nil, "leaf ", c) }

func digest(c int) api.Digest { return sha256.Sum256(fmt.Append(nil, "digest ", c)) }

// with is l with another item at i.
func with[T any](l []T, i int, x T) []T {
	l = slices.Clone(l)
	l[i] = x
	return l
}

// node is the text of the node above two digests, of each of which the first byte is told; the others are 00.
func node(l, r byte) string { return string(nodeText(api.Digest{l}, api.Digest{r})) }

// held holds an answer against what is wanted; it tells whether there is a clash.
func held(t *testing.T, keep int, what string, a, b []byte, ok bool, wantA, wantB []byte, wantOK bool) bool {
	t.Helper()
	if ok != wantOK || !bytes.Equal(a, wantA) || !bytes.Equal(b, wantB) {
		t.Errorf("%s, %d bits: %x, %x, %v, not %x, %x, %v", what, keep, a, b, ok, wantA, wantB, wantOK)
	}
	if !ok && (a != nil || b != nil) {
		t.Errorf("%s, %d bits: false, and texts %x, %x", what, keep, a, b)
	}
	w := tree.Tree{Bits: keep}
	if ok && (!OfTexts(w, a, b) || bytes.Equal(a, b) || kept(a, keep) != kept(b, keep)) {
		t.Errorf("%s, %d bits: %x, %x are no clash", what, keep, a, b)
	}
	return ok
}

func heldOf(t *testing.T, keep int, real [][]byte, i int, leaf []byte, path []api.Digest) bool {
	t.Helper()
	a, b, ok := Of(tree.Tree{Bits: keep}, real, i, leaf, path)
	wantA, wantB, wantOK := wantOf(keep, real, i, leaf, path)
	what := fmt.Sprintf("Of %d of %d, a path of %d", i, len(real), len(path))
	return held(t, keep, what, a, b, ok, wantA, wantB, wantOK)
}

func heldOfRange(t *testing.T, keep int, real [][]byte, from int, part [][]byte, path []api.Digest) bool {
	t.Helper()
	a, b, ok := OfRange(tree.Tree{Bits: keep}, real, from, part, path)
	wantA, wantB, wantOK := wantOfRange(keep, real, from, part, path)
	what := fmt.Sprintf("OfRange of %d from %d on of %d, a path of %d", len(part), from, len(real), len(path))
	return held(t, keep, what, a, b, ok, wantA, wantB, wantOK)
}

func heldOfLists(t *testing.T, keep int, real, other [][]byte) bool {
	t.Helper()
	a, b, ok := OfLists(tree.Tree{Bits: keep}, real, other)
	wantA, wantB, wantOK := wantOfLists(keep, real, other)
	return held(t, keep, fmt.Sprintf("OfLists of %d and %d", len(real), len(other)), a, b, ok, wantA, wantB, wantOK)
}

// is holds an answer against texts that are written out; none are wanted if the first one is empty.
func is(t *testing.T, what string, a, b []byte, ok bool, wantA, wantB string) {
	t.Helper()
	if string(a) != wantA || string(b) != wantB || ok != (wantA != "") {
		t.Errorf("%s: %x, %x, %v, not %x, %x", what, a, b, ok, wantA, wantB)
	}
}

// F1, F2: the chapter's examples.
func TestExamples(t *testing.T) {
	for _, keep := range noBits {
		w := tree.Tree{Bits: keep}
		a, b, ok := Of(w, abc()[:2], 0, []byte("x"), []api.Digest{{}})
		is(t, "Of", a, b, ok, "\x00x", "\x00a")
		if OfTexts(w, []byte("a"), []byte("a")) {
			t.Error("OfTexts of a, a: true")
		}
	}
}

// F1: texts of many kinds, with each number of bits.
func TestOfTexts(t *testing.T) {
	texts := [][]byte{nil, {}, {0}, {0, 0}, {1}, []byte("a"), []byte("b"), []byte("ab"), []byte("\x00a"), make([]byte, 64), make([]byte, 65), bytes.Repeat([]byte{0xff}, 3000)}
	for _, keep := range keeps {
		w := tree.Tree{Bits: keep}
		for _, a := range texts {
			for _, b := range texts {
				want := string(a) != string(b) && kept(a, keep) == kept(b, keep)
				if OfTexts(w, a, b) != want {
					t.Errorf("OfTexts of %.20x, %.20x, %d bits: %v", a, b, keep, !want)
				}
			}
		}
	}
}

// F1: without bits all unlike texts are a clash, with all of them none is known.
func TestOfTextsAtTheEnds(t *testing.T) {
	for i := range 20 {
		for k := range 20 {
			for _, keep := range noBits {
				if OfTexts(tree.Tree{Bits: keep}, leaf(i), leaf(k)) != (i != k) {
					t.Errorf("OfTexts of %s, %s, %d bits", leaf(i), leaf(k), keep)
				}
			}
			for _, keep := range allBits {
				if OfTexts(tree.Tree{Bits: keep}, leaf(i), leaf(k)) {
					t.Errorf("OfTexts of %s, %s, %d bits", leaf(i), leaf(k), keep)
				}
			}
		}
	}
}

// F1: two texts whose sums begin alike are a clash up to the bit at which these part.
func TestOfTextsUpToABit(t *testing.T) {
	longest := 0
	for i := range 60 {
		for k := range i {
			a, b := sha256.Sum256(leaf(i)), sha256.Sum256(leaf(k))
			common := 0
			for a[common/8]&(0x80>>(common%8)) == b[common/8]&(0x80>>(common%8)) {
				common++
			}
			longest = max(longest, common)
			for keep := range 258 {
				if OfTexts(tree.Tree{Bits: keep}, leaf(i), leaf(k)) != (keep <= common) {
					t.Fatalf("OfTexts of %s, %s, with %d bits alike, %d bits", leaf(i), leaf(k), common, keep)
				}
			}
			if i > 20 {
				break // enough of them for every bit that matters
			}
		}
	}
	if longest < 4 {
		t.Errorf("at most %d bits are alike", longest)
	}
}

// F2: of the real opening nothing is told.
func TestOfTheRealOne(t *testing.T) {
	for _, n := range counts {
		for _, real := range lists(n) {
			for _, keep := range keeps {
				w := tree.Tree{Bits: keep}
				for i := range n {
					path, _ := w.Path(real, i)
					a, b, ok := Of(w, real, i, bytes.Clone(real[i]), path)
					is(t, fmt.Sprintf("Of %d of %d, %d bits", i, n, keep), a, b, ok, "", "")
					heldOf(t, keep, real, i, real[i], path)
				}
			}
		}
	}
}

// F2: without bits, a leaf alone that is another one: it is told, and the real one.
func TestOfAnotherLeaf(t *testing.T) {
	for _, keep := range noBits {
		w := tree.Tree{Bits: keep}
		for _, n := range counts[1:] {
			for _, real := range lists(n) {
				for i := range n {
					path, _ := w.Path(real, i)
					a, b, ok := Of(w, real, i, leaf(i), path)
					is(t, fmt.Sprintf("Of %d of %d", i, n), a, b, ok, "\x00"+string(leaf(i)), "\x00"+string(real[i]))
				}
			}
		}
	}
	a, b, ok := Of(tree.Tree{}, abc(), 1, nil, make([]api.Digest, 2))
	is(t, "Of an empty leaf", a, b, ok, "\x00", "\x00b")
	a, b, ok = Of(tree.Tree{}, [][]byte{nil}, 0, []byte{0}, nil)
	is(t, "Of an empty real leaf", a, b, ok, "\x00\x00", "\x00")
}

// F2: without bits, digests that are others, at each height and at several: the node that is nearest to the root is told, be the leaf another one or not.
func TestOfOtherDigests(t *testing.T) {
	for _, n := range counts[2:] {
		real := unlike(n)
		for i := range n {
			beside := upwards(n, i)
			for set := 1; set < 1<<len(beside); set++ {
				path := make([]api.Digest, len(beside))
				highest := 0
				for k := range path {
					if set>>k&1 == 1 {
						path[k][0] = byte(k + 1)
						highest = k
					}
				}
				want := node(0, byte(highest+1))
				if beside[highest].hi <= i {
					want = node(byte(highest+1), 0)
				}
				for _, b := range [][]byte{real[i], leaf(i)} {
					opened, truth, ok := Of(tree.Tree{}, real, i, b, path)
					is(t, fmt.Sprintf("Of %d of %d, others %b", i, n, set), opened, truth, ok, want, node(0, 0))
				}
			}
		}
	}
}

// F2: a digest counts whole, also those bits of it that a sum does not keep.
func TestOfBitsThatAreNotKept(t *testing.T) {
	for bit := range 256 {
		path := make([]api.Digest, 1)
		path[0][bit/8] = 0x80 >> (bit % 8)
		a, b, ok := Of(tree.Tree{}, abc(), 2, []byte("c"), path)
		is(t, fmt.Sprint("Of bit ", bit), a, b, ok, string(nodeText(path[0], api.Digest{})), node(0, 0))
	}
}

// F2: with few bits, openings that are looked for till Check takes them: a leaf alone, one digest at each height, several.
func TestOfFewBits(t *testing.T) {
	for _, keep := range []int{1, 4, 8} {
		w := tree.Tree{Bits: keep}
		leaves, nodes := 0, 0
		ask := func(real [][]byte, i int, b []byte, path []api.Digest) bool {
			if !w.Check(w.Root(real), len(real), i, b, path) {
				return false
			}
			if heldOf(t, keep, real, i, b, path) {
				opened, _, _ := Of(w, real, i, b, path)
				if opened[0] == 0 {
					leaves++
				} else {
					nodes++
				}
			}
			return true
		}
		for _, n := range []int{1, 2, 3, 5, 8, 9} {
			for _, real := range [][][]byte{unlike(n), alike(n, nil)} {
				for i := 0; i < n; i += 1 + n/5 {
					path, _ := w.Path(real, i)
					search(t, keep, func(c int) bool { return ask(real, i, leaf(c), path) })
					for k := range path {
						search(t, keep, func(c int) bool { return ask(real, i, real[i], with(path, k, digest(c))) })
						search(t, keep, func(c int) bool { return ask(real, i, leaf(c), with(path, k, digest(c))) })
					}
					if len(path) > 1 {
						search(t, keep, func(c int) bool {
							return ask(real, i, real[i], with(with(path, 0, digest(c)), len(path)-1, digest(-c)))
						})
					}
				}
			}
		}
		if leaves < 5 || nodes < 20 {
			t.Errorf("%d bits: %d leaves and %d nodes are told", keep, leaves, nodes)
		}
	}
}

// search asks of number after number till one is taken, which few bits soon do.
func search(t *testing.T, keep int, taken func(c int) bool) {
	t.Helper()
	for c := range 30 << keep {
		if taken(c) {
			return
		}
	}
	t.Errorf("%d bits: none of %d is taken", keep, 30<<keep)
}

// F2: where the sums of the leaves are unlike and those above them are one, the lowest node with one sum is told, not the leaf.
func TestOfAClashAbove(t *testing.T) {
	w := tree.Tree{Bits: 4}
	real := unlike(4)
	path, _ := w.Path(real, 0)
	at := map[int]int{}
	for c := range 3000 {
		b := leaf(c)
		a, truth, ok := Of(w, real, 0, b, path)
		if !ok {
			continue
		}
		low, lowReal := nodeText(kept(leafText(b), 4), path[0]), nodeText(kept(leafText(real[0]), 4), path[0])
		top, topReal := nodeText(kept(low, 4), path[1]), nodeText(kept(lowReal, 4), path[1])
		switch {
		case string(top) != string(topReal):
			is(t, "a clash at the root", a, truth, ok, string(top), string(topReal))
			at[2]++
		case string(low) != string(lowReal):
			is(t, "a clash at a node", a, truth, ok, string(low), string(lowReal))
			at[1]++
		default:
			is(t, "a clash at the leaf", a, truth, ok, string(leafText(b)), string(leafText(real[0])))
			at[0]++
		}
	}
	if at[0] < 10 || at[1] < 10 || at[2] < 10 {
		t.Errorf("clashes by their heights: %v", at)
	}
}

// F2: openings that Check does not take.
func TestOfWhatIsNotTaken(t *testing.T) {
	for _, n := range counts {
		real := unlike(n)
		for _, keep := range keeps {
			w := tree.Tree{Bits: keep}
			for i := range n {
				path, _ := w.Path(real, i)
				wrong := [][]api.Digest{append(slices.Clone(path), api.Digest{}), append(slices.Clone(path), path...), make([]api.Digest, 64)}
				if len(path) > 0 {
					wrong = append(wrong, nil, path[1:], path[:len(path)-1])
				}
				for _, p := range wrong {
					if len(p) == len(path) {
						continue
					}
					for _, b := range [][]byte{real[i], leaf(i)} {
						a, truth, ok := Of(w, real, i, b, p)
						is(t, fmt.Sprintf("Of %d of %d, a path of %d", i, n, len(p)), a, truth, ok, "", "")
					}
				}
			}
		}
		for _, keep := range allBits {
			w := tree.Tree{Bits: keep}
			for i := range n {
				path, _ := w.Path(real, i)
				a, b, ok := Of(w, real, i, leaf(i), path)
				is(t, "Of another leaf, all bits", a, b, ok, "", "")
				for k := range path {
					a, b, ok := Of(w, real, i, real[i], with(path, k, digest(k)))
					is(t, "Of another digest, all bits", a, b, ok, "", "")
				}
			}
		}
	}
}

// F2: places that there are not.
func TestOfNoPlace(t *testing.T) {
	for _, n := range counts {
		for _, i := range []int{math.MinInt, math.MinInt + 1, -9, -1, n, n + 1, 2 * n, 1 << 32, math.MaxInt - 1, math.MaxInt} {
			if i >= 0 && i < n {
				continue
			}
			for digests := range 66 {
				a, b, ok := Of(tree.Tree{}, unlike(n), i, leaf(0), make([]api.Digest, digests))
				is(t, fmt.Sprintf("Of %d of %d", i, n), a, b, ok, "", "")
			}
		}
	}
	a, b, ok := Of(tree.Tree{}, nil, 0, nil, nil)
	is(t, "Of no leaves", a, b, ok, "", "")
}

// F3: of the real opening nothing is told.
func TestOfRangeTheRealOne(t *testing.T) {
	for _, n := range counts {
		for _, real := range lists(n) {
			for _, keep := range keeps {
				w := tree.Tree{Bits: keep}
				for from := range n {
					for to := from + 1; to <= n; to += 1 + n/7 {
						path, _ := w.Range(real, from, to)
						a, b, ok := OfRange(w, real, from, real[from:to], path)
						is(t, fmt.Sprintf("OfRange of %d to %d of %d, %d bits", from, to, n, keep), a, b, ok, "", "")
					}
				}
			}
		}
	}
}

// F3: without bits, leaves that are others: the one farthest to the left is told.
func TestOfRangeOtherLeaves(t *testing.T) {
	for _, keep := range noBits {
		for _, n := range []int{1, 2, 3, 5, 8, 9} {
			real := unlike(n)
			for from := range n {
				for to := from + 1; to <= n; to++ {
					path := make([]api.Digest, len(outside(n, span{from, to})))
					for first := from; first < to; first++ {
						for last := first; last < to; last++ {
							part := with(with(real[from:to], last-from, leaf(last)), first-from, leaf(first))
							a, b, ok := OfRange(tree.Tree{Bits: keep}, real, from, part, path)
							what := fmt.Sprintf("OfRange of %d to %d of %d, others %d, %d", from, to, n, first, last)
							is(t, what, a, b, ok, "\x00"+string(leaf(first)), "\x00"+string(real[first]))
						}
					}
				}
			}
		}
	}
}

// F3: without bits, the leaves 1 and 2 of five, beside which stand 0, 3 and 4: each node ahead of what is below it, the left part ahead of the right one.
func TestOfRangeOrder(t *testing.T) {
	real := [][]byte{[]byte("a"), []byte("b"), []byte("c"), []byte("d"), []byte("e")}
	for _, x := range []struct {
		part    string
		path    [3]byte
		opened  string
		realOne string
	}{
		{"bc", [3]byte{0, 0, 0}, "", ""},
		{"xc", [3]byte{0, 0, 0}, "\x00x", "\x00b"},
		{"bx", [3]byte{0, 0, 0}, "\x00x", "\x00c"},
		{"xy", [3]byte{0, 0, 0}, "\x00x", "\x00b"},
		{"xy", [3]byte{0, 9, 0}, "\x00x", "\x00b"}, // the left part's leaf, ahead of the right part's node
		{"by", [3]byte{0, 9, 0}, node(0, 9), node(0, 0)},
		{"bc", [3]byte{0, 9, 0}, node(0, 9), node(0, 0)},
		{"bc", [3]byte{8, 0, 0}, node(8, 0), node(0, 0)},
		{"xc", [3]byte{8, 0, 0}, node(8, 0), node(0, 0)},
		{"bc", [3]byte{8, 9, 0}, node(8, 0), node(0, 0)},
		{"bc", [3]byte{0, 0, 7}, node(0, 7), node(0, 0)},
		{"xy", [3]byte{8, 9, 7}, node(0, 7), node(0, 0)},
	} {
		path := []api.Digest{{x.path[0]}, {x.path[1]}, {x.path[2]}}
		a, b, ok := OfRange(tree.Tree{}, real, 1, [][]byte{{x.part[0]}, {x.part[1]}}, path)
		is(t, fmt.Sprint(x.part, x.path), a, b, ok, x.opened, x.realOne)
	}
}

// F3: without bits, digests that are others, each and by twos, and with them leaves.
func TestOfRangeOtherDigests(t *testing.T) {
	for _, n := range []int{2, 3, 5, 8, 9, 13} {
		real := unlike(n)
		told := 0
		for from := range n {
			for to := from + 1; to <= n; to++ {
				none := make([]api.Digest, len(outside(n, span{from, to})))
				for k := range none {
					for m := range none {
						path := with(with(none, k, digest(k)), m, digest(m))
						for at := range to - from {
							for _, part := range [][][]byte{real[from:to], with(real[from:to], at, leaf(at))} {
								if heldOfRange(t, 0, real, from, part, path) {
									told++
								}
							}
						}
					}
				}
			}
		}
		if told < n {
			t.Errorf("%d leaves: %d clashes", n, told)
		}
	}
}

// F3: with few bits, openings that are looked for till CheckRange takes them.
func TestOfRangeFewBits(t *testing.T) {
	for _, keep := range []int{1, 4, 8} {
		w := tree.Tree{Bits: keep}
		leaves, nodes := 0, 0
		ask := func(real [][]byte, from int, part [][]byte, path []api.Digest) bool {
			if !w.CheckRange(w.Root(real), len(real), from, part, path) {
				return false
			}
			if heldOfRange(t, keep, real, from, part, path) {
				opened, _, _ := OfRange(w, real, from, part, path)
				if opened[0] == 0 {
					leaves++
				} else {
					nodes++
				}
			}
			return true
		}
		for _, n := range []int{1, 2, 3, 5, 8, 9} {
			for _, real := range [][][]byte{unlike(n), alike(n, []byte("a"))} {
				for from := 0; from < n; from += 1 + n/4 {
					for to := from + 1; to <= n; to += 1 + n/3 {
						part := real[from:to]
						path, _ := w.Range(real, from, to)
						search(t, keep, func(c int) bool { return ask(real, from, with(part, 0, leaf(c)), path) })
						search(t, keep, func(c int) bool {
							return ask(real, from, with(with(part, 0, leaf(-c)), len(part)-1, leaf(c)), path)
						})
						for k := range path {
							search(t, keep, func(c int) bool { return ask(real, from, part, with(path, k, digest(c))) })
						}
					}
				}
			}
		}
		if leaves < 5 || nodes < 20 {
			t.Errorf("%d bits: %d leaves and %d nodes are told", keep, leaves, nodes)
		}
	}
}

// F3: openings that CheckRange does not take: paths of another length, other leaves with all bits.
func TestOfRangeWhatIsNotTaken(t *testing.T) {
	for _, n := range []int{1, 2, 3, 5, 8, 9} {
		real := unlike(n)
		for from := range n {
			for to := from + 1; to <= n; to++ {
				right := len(outside(n, span{from, to}))
				for digests := range 12 {
					if digests == right {
						continue
					}
					for _, part := range [][][]byte{real[from:to], with(real[from:to], 0, leaf(0))} {
						a, b, ok := OfRange(tree.Tree{}, real, from, part, make([]api.Digest, digests))
						is(t, fmt.Sprintf("OfRange of %d to %d of %d, a path of %d", from, to, n, digests), a, b, ok, "", "")
					}
				}
				for _, keep := range allBits {
					w := tree.Tree{Bits: keep}
					path, _ := w.Range(real, from, to)
					a, b, ok := OfRange(w, real, from, with(real[from:to], to-from-1, leaf(0)), path)
					is(t, "OfRange of another leaf, all bits", a, b, ok, "", "")
					for k := range path {
						a, b, ok := OfRange(w, real, from, real[from:to], with(path, k, digest(k)))
						is(t, "OfRange of another digest, all bits", a, b, ok, "", "")
					}
				}
			}
		}
	}
}

// F3: places that there are not, an empty part, parts that are longer than what is left of the list, or than the list.
func TestOfRangeOfNoPlaces(t *testing.T) {
	for _, n := range []int{0, 1, 2, 3, 5, 8, 9} {
		for _, from := range []int{math.MinInt, math.MinInt + 1, -9, -1, 0, 1, 2, n - 1, n, n + 1, 1 << 32, math.MaxInt - 9, math.MaxInt - 1, math.MaxInt} {
			for _, size := range []int{0, 1, 2, n, n + 1, 2*n + 3} {
				if size > 0 && from >= 0 && size <= n && from <= n-size {
					continue
				}
				for digests := range 10 {
					for _, keep := range []int{0, 256} {
						a, b, ok := OfRange(tree.Tree{Bits: keep}, unlike(n), from, alike(size, leaf(0)), make([]api.Digest, digests))
						is(t, fmt.Sprintf("OfRange of %d from %d on of %d, a path of %d", size, from, n, digests), a, b, ok, "", "")
					}
				}
			}
		}
	}
	root := tree.Tree{}.Root(abc())
	a, b, ok := OfRange(tree.Tree{}, abc(), 0, nil, []api.Digest{root})
	is(t, "OfRange of nothing", a, b, ok, "", "")
}

// F4: lists that are the same, also where nothing is nil in one and empty in the other.
func TestOfListsThatAreTheSame(t *testing.T) {
	for _, keep := range keeps {
		w := tree.Tree{Bits: keep}
		for _, n := range counts {
			for _, l := range lists(n) {
				other := make([][]byte, 0, n)
				for _, b := range l {
					other = append(other, []byte(string(b)))
				}
				a, b, ok := OfLists(w, l, other)
				is(t, fmt.Sprintf("OfLists of the same %d, %d bits", n, keep), a, b, ok, "", "")
			}
		}
		a, b, ok := OfLists(w, nil, [][]byte{})
		is(t, "OfLists of nothing", a, b, ok, "", "")
		a, b, ok = OfLists(w, [][]byte{nil, {}}, [][]byte{{}, nil})
		is(t, "OfLists of empty leaves", a, b, ok, "", "")
	}
}

// F4: lists of unlike lengths, be one of them the beginning of the other, or nothing.
func TestOfListsOfUnlikeLengths(t *testing.T) {
	for _, keep := range keeps {
		for _, n := range counts {
			for _, m := range counts {
				if n == m {
					continue
				}
				for _, other := range lists(m) {
					a, b, ok := OfLists(tree.Tree{Bits: keep}, unlike(n), other)
					is(t, fmt.Sprintf("OfLists of %d and %d, %d bits", n, m, keep), a, b, ok, "", "")
				}
			}
		}
	}
}

// F4: without bits, the first leaf that is another one is told, other's ahead of real's.
func TestOfListsOtherLeaves(t *testing.T) {
	for _, keep := range noBits {
		for _, n := range counts[1:] {
			for _, real := range lists(n) {
				for first := range n {
					for last := first; last < n; last++ {
						other := with(with(real, last, leaf(last)), first, leaf(first))
						a, b, ok := OfLists(tree.Tree{Bits: keep}, real, other)
						is(t, fmt.Sprintf("OfLists of %d, others %d, %d", n, first, last), a, b, ok, "\x00"+string(leaf(first)), "\x00"+string(real[first]))
						a, b, ok = OfLists(tree.Tree{Bits: keep}, other, real)
						is(t, fmt.Sprintf("OfLists of %d, others %d, %d, turned round", n, first, last), a, b, ok, "\x00"+string(real[first]), "\x00"+string(leaf(first)))
					}
				}
			}
		}
	}
}

// F4: with few bits, lists that are looked for till their roots are one.
func TestOfListsFewBits(t *testing.T) {
	for _, keep := range []int{1, 4, 8} {
		w := tree.Tree{Bits: keep}
		leaves, nodes := 0, 0
		for _, n := range []int{1, 2, 3, 5, 8, 9} {
			for _, real := range lists(n) {
				for at := range n {
					search(t, keep, func(c int) bool {
						other := with(with(real, (at+c)%n, leaf(-c)), at, leaf(c))
						if w.Root(other) != w.Root(real) {
							if a, b, ok := OfLists(w, real, other); ok || a != nil || b != nil {
								t.Errorf("OfLists of two roots, %d bits: %x, %x, %v", keep, a, b, ok)
							}
							return false
						}
						if heldOfLists(t, keep, real, other) {
							opened, _, _ := OfLists(w, real, other)
							if opened[0] == 0 {
								leaves++
							} else {
								nodes++
							}
						}
						return true
					})
				}
			}
		}
		if leaves < 5 || nodes < 20 {
			t.Errorf("%d bits: %d leaves and %d nodes are told", keep, leaves, nodes)
		}
	}
}

// F4: a node at the left is told ahead of one at the right, and a leaf at the left ahead of a node at the right: lists of four that clash in both halves.
func TestOfListsLeftAheadOfRight(t *testing.T) {
	w := tree.Tree{Bits: 4}
	l := unlike(2)
	var byLeaf, byNode [][]byte // two leaves with the root of l: by a clash of the leaves, and of the node above them
	for c := range 5000 {
		other := [][]byte{leaf(c), leaf(-c)}
		if byLeaf == nil && w.Leaf(other[0]) == w.Leaf(l[0]) {
			byLeaf = [][]byte{other[0], l[1]}
		}
		if byNode == nil && w.Root(other) == w.Root(l) && w.Leaf(other[0]) != w.Leaf(l[0]) {
			byNode = other
		}
	}
	real := append(unlike(2), unlike(2)...)
	leafA, leafB := string(leafText(byLeaf[0])), string(leafText(l[0]))
	nodeA := string(nodeText(w.Leaf(byNode[0]), w.Leaf(byNode[1])))
	nodeB := string(nodeText(w.Leaf(l[0]), w.Leaf(l[1])))
	for _, x := range []struct {
		left, right [][]byte
		a, b        string
	}{{byLeaf, byNode, leafA, leafB}, {byNode, byLeaf, nodeA, nodeB}, {l, byNode, nodeA, nodeB}, {l, byLeaf, leafA, leafB}} {
		a, b, ok := OfLists(w, real, slices.Concat(x.left, x.right))
		is(t, "OfLists of two halves", a, b, ok, x.a, x.b)
	}
}

// F4: with all bits no two unlike lists are known to have one root.
func TestOfListsOfTwoRoots(t *testing.T) {
	for _, keep := range allBits {
		for _, n := range counts[1:] {
			for _, real := range lists(n) {
				for at := range n {
					a, b, ok := OfLists(tree.Tree{Bits: keep}, real, with(real, at, leaf(at)))
					is(t, fmt.Sprintf("OfLists of %d, another %d, %d bits", n, at, keep), a, b, ok, "", "")
				}
			}
		}
	}
	// Exchanged leaves are other ones, too.
	a, b, ok := OfLists(tree.Tree{Bits: 256}, abc(), [][]byte{[]byte("b"), []byte("a"), []byte("c")})
	is(t, "OfLists of exchanged leaves", a, b, ok, "", "")
	a, b, ok = OfLists(tree.Tree{}, abc(), [][]byte{[]byte("a"), []byte("c"), []byte("b")})
	is(t, "OfLists of exchanged leaves, no bits", a, b, ok, "\x00c", "\x00b")
}

// F2 to F4: long lists, in which the one other leaf is the last one.
func TestLongLists(t *testing.T) {
	for _, n := range []int{64, 65, 1000, 20000} {
		real := alike(n, []byte("a"))
		other := with(real, n-1, []byte("x"))
		a, b, ok := OfLists(tree.Tree{}, real, other)
		is(t, fmt.Sprint("OfLists of ", n), a, b, ok, "\x00x", "\x00a")
		path, _ := tree.Tree{}.Path(real, n-1)
		a, b, ok = Of(tree.Tree{}, real, n-1, []byte("x"), path)
		is(t, fmt.Sprint("Of the last of ", n), a, b, ok, "\x00x", "\x00a")
		path, _ = tree.Tree{}.Range(real, n/2-3, n)
		a, b, ok = OfRange(tree.Tree{}, real, n/2-3, other[n/2-3:], path)
		is(t, fmt.Sprint("OfRange of the last of ", n), a, b, ok, "\x00x", "\x00a")
	}
}

// roomy are leaves with spare room behind each, and behind the list, that nobody may write to.
func roomy(n int, word string) [][]byte {
	l := make([][]byte, 0, n+5)
	for i := range n {
		l = append(l, append(make([]byte, 0, 99), fmt.Sprint(word, i)...))
	}
	return l
}

// wholeOf is all bytes of the leaves, their spare room with them.
func wholeOf(l [][]byte) string {
	var b []byte
	for _, x := range l[:cap(l)] {
		b = append(b, fmt.Sprint(len(x), ":", x == nil, ":")...)
		b = append(b, x[:cap(x)]...)
	}
	return string(b)
}

// R1: what is handed in stays as it was, its spare room with it, whether or not there is a clash.
func TestNothingIsChanged(t *testing.T) {
	for _, keep := range []int{0, 4, 256} {
		w := tree.Tree{Bits: keep}
		for _, n := range []int{1, 2, 3, 5, 8, 9} {
			real, other := roomy(n, "real "), roomy(n, "other ")
			was, otherWas := wholeOf(real), wholeOf(other)
			OfLists(w, real, other)
			OfLists(w, real, real)
			for i := range n {
				OfTexts(w, real[i], other[i])
				up, _ := w.Path(real, i)
				row, _ := w.Range(real, i, n)
				up, row = append(make([]api.Digest, 0, 20), up...), append(make([]api.Digest, 0, 20), row...)
				if len(up) > 0 && i%2 == 0 {
					up[len(up)/2][31] = 1
				}
				paths := slices.Concat(up[:20], row[:20])
				Of(w, real, i, other[i], up)
				Of(w, real, i, real[i], up)
				OfRange(w, real, i, other[i:], row)
				OfRange(w, real, i, real[i:], row)
				if !slices.Equal(paths, slices.Concat(up[:20], row[:20])) {
					t.Errorf("the path of %d of %d, %d bits, was changed", i, n, keep)
				}
			}
			if wholeOf(real) != was || wholeOf(other) != otherWas {
				t.Errorf("%d leaves, %d bits, were changed", n, keep)
			}
		}
	}
}

// R1: what is told is the caller's: it hangs neither on what was handed in, nor on the other text, nor on a later answer.
func TestNothingIsShared(t *testing.T) {
	w := tree.Tree{}
	for _, other := range []api.Digest{{}, {9}} { // a leaf is told, and a node
		real, part := roomy(3, "real "), roomy(2, "part ")
		path := []api.Digest{other}
		asks := []func() ([]byte, []byte, bool){
			func() ([]byte, []byte, bool) { return Of(w, real, 2, part[1], path) },
			func() ([]byte, []byte, bool) { return OfRange(w, real, 1, part, path) },
			func() ([]byte, []byte, bool) { return OfLists(w, real[:2], part) },
		}
		var told [][]byte
		var want []string
		for _, ask := range asks {
			a, b, _ := ask()
			again, andAgain, ok := ask()
			want = append(want, string(again), string(andAgain))
			told = append(told, again, andAgain)
			if !ok || string(a) != string(again) || string(b) != string(andAgain) {
				t.Errorf("asked twice: %x, %x, and %x, %x, %v", a, b, again, andAgain, ok)
			}
			clear(a[:cap(a)])
			clear(b[:cap(b)])
		}
		for _, b := range slices.Concat(real, part) {
			clear(b[:cap(b)])
		}
		clear(path)
		for k := range told {
			if string(told[k]) != want[k] {
				t.Errorf("answer %d was %x, is %x", k, want[k], told[k])
			}
			clear(told[k][:cap(told[k])])
		}
	}
	if real := roomy(3, "real "); heldOfLists(t, 0, real, real) || !heldOfLists(t, 0, real, roomy(3, "other ")) {
		t.Error("later answers are others")
	}
}

// F1 to F4: any bytes and numbers, held against the chapter's words.
func FuzzClash(f *testing.F) {
	f.Add(3, 0, 1, 2, "x", []byte("bc"))
	f.Add(8, 1, 7, 1, "", make([]byte, 99))
	f.Add(5, 4, 2, 3, "y", []byte{1})
	f.Add(0, math.MinInt, math.MaxInt, -5, "x", []byte{})
	f.Fuzz(func(t *testing.T, n, keep, i, size int, text string, more []byte) {
		n, size = int(uint(n)%20), int(uint(size)%20)
		real := unlike(n)
		part := alike(size, []byte(text))
		w := tree.Tree{Bits: keep}
		path, _ := w.Path(real, i)
		row, _ := w.Range(real, i, min(max(i, 0), n)+size)
		for k := 0; k < len(more)/2 && k < len(path); k++ {
			path[len(path)-1-k][more[2*k]%32] ^= more[2*k+1]
		}
		for k := 0; k < len(more)/2 && k < len(row); k++ {
			row[k][more[2*k]%32] ^= more[2*k+1]
		}
		heldOf(t, keep, real, i, []byte(text), path)
		heldOfRange(t, keep, real, i, part, row)
		if i >= 0 && i < n {
			heldOf(t, keep, real, i, real[i], path)
			heldOfRange(t, keep, real, i, real[i:min(n, i+size)], row)
			heldOfLists(t, keep, real, with(real, i, []byte(text)))
		}
		heldOfLists(t, keep, real, part)
		if OfTexts(w, []byte(text), more) != (text != string(more) && kept([]byte(text), keep) == kept(more, keep)) {
			t.Errorf("OfTexts of %x, %x, %d bits", text, more, keep)
		}
	})
}
