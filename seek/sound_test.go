package seek

import (
	"bytes"
	"fmt"
	"math/rand"
	"slices"
	"testing"

	"marlstone/api"
	"marlstone/clash"
	"marlstone/tree"
)

// told tells whether e and is are what l has of key.
func told(l []api.Entry, key string, e api.Entry, is bool) bool {
	at := slices.IndexFunc(l, func(e api.Entry) bool { return e.Key == key })
	if at < 0 {
		return !is && e == (api.Entry{})
	}
	return is && e == l[at]
}

// shown tells whether two unlike texts with one sum come out of an opening of p.
func shown(w tree.Tree, leaves [][]byte, p api.Point) bool {
	for _, o := range []api.Opening{p.A, p.B} {
		if a, b, is := clash.Of(w, leaves, o.At, o.Leaf, o.Path); is && clash.OfTexts(w, a, b) {
			return true
		}
	}
	return false
}

// liar makes openings of leaves that are not there, by chance: where few bits are kept, some are taken.
type liar struct {
	r    *rand.Rand
	keep int
	l    []api.Entry
}

func (m liar) entry() api.Entry {
	keys := asked(m.l)
	e := api.Entry{Key: keys[m.r.Intn(len(keys))], Seq: 1 + m.r.Intn(300)}
	if m.r.Intn(3) == 0 {
		e.Del = true
	} else {
		e.Value = fmt.Sprint(m.r.Intn(10))
	}
	return e
}

func (m liar) digest() api.Digest {
	return kept(fmt.Sprint(m.r.Int()), m.keep)
}

func (m liar) opening() api.Opening {
	o := modelOpening(m.keep, m.l, m.r.Intn(len(m.l)))
	if m.r.Intn(2) == 0 {
		o.Leaf = []byte(rawLeaf(m.entry()))
	}
	for i := range o.Path {
		if m.r.Intn(3) == 0 {
			o.Path[i] = m.digest()
		}
	}
	return o
}

func (m liar) point() api.Point {
	p := api.Point{Between: m.r.Intn(2) == 0, A: m.opening()}
	if p.Between {
		p.B = m.opening()
		if m.r.Intn(2) == 0 {
			p.B.At = p.A.At + 1
		}
	}
	return p
}

func (m liar) span() api.Span {
	from := m.r.Intn(len(m.l))
	to := from + 1 + m.r.Intn(len(m.l)-from)
	leaves := rawLeaves(m.l)
	s := api.Span{From: from, Leaves: slices.Clone(leaves[from:to]), Path: modelBeside(m.keep, leaves, from, to)}
	for i := range s.Leaves {
		if m.r.Intn(2) == 0 {
			s.Leaves[i] = []byte(rawLeaf(m.entry()))
		}
	}
	for i := range s.Path {
		if m.r.Intn(3) == 0 {
			s.Path[i] = m.digest()
		}
	}
	return s
}

// What follows: if what Check tells is not so of l, whose table x is, there are two unlike texts with one sum.
func TestWhatCheckTellsIsSoOrThereIsAClash(t *testing.T) {
	lies := 0
	for seed, l := range [][]api.Entry{two(), many(1), many(2), many(3), many(5), many(8), growing(4)} {
		for _, keep := range []int{0, 1, 2, 5, 256} {
			w := tree.Tree{Bits: keep}
			x, leaves, keys := described(t, w, l), rawLeaves(l), asked(l)
			m := liar{rand.New(rand.NewSource(int64(seed))), keep, l}
			for range 4000 {
				key, p := keys[m.r.Intn(len(keys))], m.point()
				e, is, err := heldCheck(t, w, x, key, p, "a lie")
				if err != api.OK || told(l, key, e, is) {
					continue
				}
				lies++
				if keep == 256 || !shown(w, leaves, p) {
					t.Errorf("Check of %q, %d bits: %v, %v is not so, and there is no clash: %v", key, keep, e, is, p)
				}
			}
		}
	}
	if lies < 100 {
		t.Errorf("%d lies that were taken: too few to say anything", lies)
	}
}

// The same of spans.
func TestWhatCheckSpanTellsIsSoOrThereIsAClash(t *testing.T) {
	lies := 0
	for seed, l := range [][]api.Entry{two(), many(1), many(2), many(3), many(5), many(8), growing(4)} {
		for _, keep := range []int{0, 1, 2, 5, 256} {
			w := tree.Tree{Bits: keep}
			x, leaves, keys := described(t, w, l), rawLeaves(l), asked(l)
			m := liar{rand.New(rand.NewSource(int64(seed))), keep, l}
			for range 4000 {
				lo, hi, s := keys[m.r.Intn(len(keys))], keys[m.r.Intn(len(keys))], m.span()
				found, err := heldCheckSpan(t, w, x, lo, hi, s, "a lie")
				if err != api.OK || slices.Equal(found, modelFound(l, lo, hi)) {
					continue
				}
				lies++
				a, b, is := clash.OfRange(w, leaves, s.From, s.Leaves, s.Path)
				if keep == 256 || !is || !clash.OfTexts(w, a, b) {
					t.Errorf("CheckSpan from %q to %q, %d bits: %v is not so, and there is no clash: %v", lo, hi, keep, found, s)
				}
			}
		}
	}
	if lies < 100 {
		t.Errorf("%d lies that were taken: too few to say anything", lies)
	}
}

// roomy is b with room behind it, that is its owner's.
func roomy(b []byte) []byte { return append(bytes.Clone(b), "room"...)[:len(b)] }

func roomyPath(path []api.Digest) []api.Digest {
	return append(slices.Clone(path), api.Digest{7}, api.Digest{8})[:len(path)]
}

func roomyOpening(o api.Opening) api.Opening {
	return api.Opening{At: o.At, Leaf: roomy(o.Leaf), Path: roomyPath(o.Path)}
}

func roomKept(o api.Opening) bool {
	leaf, path := o.Leaf[:len(o.Leaf)+4], o.Path[:len(o.Path)+2]
	return string(leaf[len(o.Leaf):]) == "room" && path[len(o.Path)] == api.Digest{7} && path[len(o.Path)+1] == api.Digest{8}
}

// R1: what is handed in stays as it was, the room behind it too.
func TestWhatIsHandedInStays(t *testing.T) {
	for _, l := range few() {
		x := described(t, whole, l)
		mine := append(slices.Clone(l), api.Entry{Key: "room"})[:len(l)]
		for _, key := range asked(l) {
			p, err := Prove(whole, mine, key)
			if err != api.OK {
				continue
			}
			q := api.Point{Between: p.Between, A: roomyOpening(p.A), B: roomyOpening(p.B)}
			Check(whole, x, key, q)
			if !samePoint(p, q) || !roomKept(q.A) || !roomKept(q.B) {
				t.Errorf("Check of %q wrote over its point", key)
			}
			s := spanned(t, whole, mine, key, "")
			r := cloneSpan(s)
			r.Path = roomyPath(r.Path)
			for i := range r.Leaves {
				r.Leaves[i] = roomy(r.Leaves[i])
			}
			CheckSpan(whole, x, key, "", r)
			if !sameSpan(r, s) || r.Path[:len(r.Path)+1][len(r.Path)] != (api.Digest{7}) {
				t.Errorf("CheckSpan from %q wrote over its span", key)
			}
			for i, leaf := range r.Leaves {
				if string(leaf[:len(leaf)+4][len(leaf):]) != "room" {
					t.Errorf("CheckSpan from %q wrote behind its leaf %d", key, i)
				}
			}
		}
		if !slices.Equal(mine, l) || mine[:len(l)+1][len(l)] != (api.Entry{Key: "room"}) {
			t.Errorf("Prove or ProveSpan wrote over its list %v", l)
		}
	}
}

// scribble writes over all of o, and behind it.
func scribble(o api.Opening) {
	leaf, path := o.Leaf[:cap(o.Leaf)], o.Path[:cap(o.Path)]
	for i := range leaf {
		leaf[i] ^= 0xff
	}
	for i := range path {
		path[i][0] ^= 0xff
	}
}

// R1: what comes out is its owner's: written over, it changes neither another answer, nor another part of the same one.
func TestWhatComesOutIsItsOwners(t *testing.T) {
	for _, l := range few() {
		x, mine := described(t, whole, l), slices.Clone(l)
		for _, key := range asked(l) {
			p, err := Prove(whole, mine, key)
			if err != api.OK {
				continue
			}
			want, q := clonePoint(p), proved(t, whole, mine, key)
			e, is, _ := Check(whole, x, key, q)
			scribble(q.A)
			if !samePoint(p, want) || !sameOpening(q.B, want.B) {
				t.Errorf("Prove of %q: what was answered is shared", key)
			}
			scribble(q.B)
			if !samePoint(p, want) || !samePoint(proved(t, whole, mine, key), want) || !told(l, key, e, is) {
				t.Errorf("Prove of %q: what was answered is kept", key)
			}
		}
		if !slices.Equal(mine, l) {
			t.Errorf("Prove: its list was written over: %v", mine)
		}
	}
}

func TestWhatComesOutOfASpanIsItsOwners(t *testing.T) {
	for _, l := range few() {
		x, mine := described(t, whole, l), slices.Clone(l)
		for _, lo := range asked(l) {
			s, err := ProveSpan(whole, mine, lo, "")
			if err != api.OK {
				continue
			}
			want, r := cloneSpan(s), spanned(t, whole, mine, lo, "")
			found, _ := CheckSpan(whole, x, lo, "", r)
			again, _ := CheckSpan(whole, x, lo, "", r)
			for i := range r.Leaves {
				scribble(api.Opening{Leaf: r.Leaves[i]})
				for k := i + 1; k < len(r.Leaves); k++ {
					if !bytes.Equal(r.Leaves[k], want.Leaves[k]) {
						t.Errorf("ProveSpan from %q: the leaves %d and %d share", lo, i, k)
					}
				}
			}
			scribble(api.Opening{Path: r.Path})
			if !sameSpan(s, want) || !sameSpan(spanned(t, whole, mine, lo, ""), want) || !slices.Equal(found, modelFound(l, lo, "")) {
				t.Errorf("ProveSpan from %q: what was answered is shared or kept", lo)
			}
			for i := range found[:cap(found)] {
				found[:cap(found)][i] = api.Entry{Key: "mine"}
			}
			if !slices.Equal(again, modelFound(l, lo, "")) {
				t.Errorf("CheckSpan from %q: two answers share", lo)
			}
		}
		if !slices.Equal(mine, l) {
			t.Errorf("ProveSpan: its list was written over: %v", mine)
		}
	}
}

// pieces reads what a fuzzer made as numbers, texts and lists.
type pieces struct{ b []byte }

func (p *pieces) small() int {
	if len(p.b) == 0 {
		return 0
	}
	c := p.b[0]
	p.b = p.b[1:]
	return int(int8(c))
}

func (p *pieces) text() []byte {
	n := min(max(p.small(), 0), len(p.b))
	s := p.b[:n]
	p.b = p.b[n:]
	return s
}

func (p *pieces) path() []api.Digest {
	var path []api.Digest
	for range max(p.small(), 0) % 8 {
		path = append(path, api.Digest{byte(p.small())})
	}
	return path
}

func (p *pieces) opening() api.Opening {
	return api.Opening{At: p.small(), Leaf: p.text(), Path: p.path()}
}

// R2, and all of the chapter: whatever is handed in, the program and the model say the same.
func FuzzAll(f *testing.F) {
	leaf := rawLeaf(api.Entry{Key: "b", Value: "v", Seq: 1})
	opening := "\x00" + string([]byte{byte(len(leaf))}) + leaf + "\x00"
	f.Add([]byte{}, "", "", "")
	f.Add([]byte("\x00\x01\x01a\x01z\x00"+opening+opening), "b", "a", "c")
	f.Add([]byte("\x00\x02\x01a\x01z\x01"+opening+"\x01"+opening[1:]), "aa", "", "")
	f.Fuzz(func(t *testing.T, b []byte, key, lo, hi string) {
		in := &pieces{b}
		w := tree.Tree{Bits: in.small()}
		x := api.Table{Count: in.small(), First: string(in.text()), Last: string(in.text())}
		p := api.Point{Between: in.small()%2 != 0, A: in.opening(), B: in.opening()}
		heldCheck(t, w, x, key, p, "a fuzzer's point")
		s := api.Span{From: in.small(), Path: in.path()}
		for range max(in.small(), 0) % 8 {
			s.Leaves = append(s.Leaves, in.text())
		}
		heldCheckSpan(t, w, x, lo, hi, s, "a fuzzer's span")
		// A root that the leaves have makes openings of them hold.
		y := underRoot(w, s.Leaves...)
		heldCheckSpan(t, w, y, lo, hi, allOf(s.Leaves...), "a fuzzer's leaves")
		var l []api.Entry
		for range max(in.small(), 0) % 8 {
			l = append(l, api.Entry{Key: string(in.text()), Value: string(in.text()), Del: in.small()%2 != 0, Seq: in.small()})
		}
		q, err := Prove(w, l, key)
		if want, wantErr := modelProve(w.Bits, l, key); err != wantErr || !samePoint(q, want) {
			t.Errorf("Prove of %q in %v: %v, %v, not %v, %v", key, l, q, err, want, wantErr)
		}
		r, err := ProveSpan(w, l, lo, hi)
		if want, wantErr := modelProveSpan(w.Bits, l, lo, hi); err != wantErr || !sameSpan(r, want) {
			t.Errorf("ProveSpan from %q to %q of %v: %v, %v, not %v, %v", lo, hi, l, r, err, want, wantErr)
		}
	})
}
