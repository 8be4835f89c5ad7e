package seek

import (
	"bytes"
	"encoding/hex"
	"fmt"
	"math"
	"slices"
	"strings"
	"testing"

	"marlstone/api"
	"marlstone/table"
	"marlstone/tree"
)

// Sums of the chapter's example, that were reckoned elsewhere: of the leaf of (a, 1), of that of (c, 2), and of the node above both.
const (
	sumA  = "9e72ebf180fe097f63a64a5f090e4f2bd07625da1a312e1bab8e6b4d0a8a707b"
	sumC  = "3d5d8d3003365e675d61444fb11950b7e06bcb847d7a6b46d667c0034e3bcfed"
	sumAC = "002878878d9c0f8b0fbc027aa48c6dd6ab50dddc05aa45e2cb170fa0f89e510d"
)

// keeps are numbers of bits: those that there are, and some below and above.
var keeps = []int{math.MinInt, -1, 0, 1, 3, 8, 100, 255, 256, 257, math.MaxInt}

// whole keeps all bits: no two unlike texts of a test have one sum there.
var whole = tree.Tree{Bits: 256}

func digest(s string) api.Digest {
	b, _ := hex.DecodeString(s)
	return api.Digest(b)
}

func long(n int) string { return strings.Repeat("k", n) }

// two is the list of the chapter's example.
func two() []api.Entry { return []api.Entry{{Key: "a", Seq: 1}, {Key: "c", Seq: 2}} }

// many is a list of n entries (fit, if n is 1 to 64), every third one with Del.
func many(n int) []api.Entry {
	var l []api.Entry
	for i := range n {
		e := api.Entry{Key: fmt.Sprintf("k%03d", 2*i), Value: fmt.Sprint("v", i), Seq: 1 + i*i*i}
		if i%3 == 2 {
			e.Value, e.Del = "", true
		}
		l = append(l, e)
	}
	return l
}

// growing is a list of which each key is the beginning of the next, and there is none between the two.
func growing(n int) []api.Entry {
	var l []api.Entry
	for i := range n {
		l = append(l, api.Entry{Key: "a" + strings.Repeat("\x00", i), Value: "v", Seq: 1 + i})
	}
	return l
}

// few are fit lists with few entries, of many kinds.
func few() [][]api.Entry {
	all := [][]api.Entry{
		two(),
		growing(1), growing(4),
		{{Key: "\x00", Seq: 1}, {Key: "\x00\x00", Seq: 1}, {Key: "\x7f", Seq: 1}, {Key: "\x80", Seq: 1}, {Key: "\xff", Seq: 1}},
		{{Key: long(127), Del: true, Seq: api.MaxSeq}, {Key: long(128), Seq: 127}, {Key: "l", Seq: 128}},
		{{Key: "a", Value: long(1024), Seq: api.MaxSeq}, {Key: "b", Value: "\x00", Seq: 1}},
	}
	for n := 1; n <= 9; n++ {
		all = append(all, many(n))
	}
	return all
}

// lists are few, and some with many entries, up to as many as there may be.
func lists() [][]api.Entry {
	return append(few(), many(16), many(17), many(31), many(33), many(63), many(64), growing(64))
}

// notFit are lists that have one fault each.
func notFit() [][]api.Entry {
	all := [][]api.Entry{nil, {}, many(65), many(66), growing(65), many(200)}
	for _, e := range []api.Entry{
		{},
		{Key: "", Value: "v", Seq: 1},
		{Key: "k002" + long(125), Value: "v", Seq: 1},
		{Key: "k002", Value: long(1025), Seq: 1},
		{Key: "k002", Value: "v", Del: true, Seq: 1},
		{Key: "k002", Value: "v", Seq: 0},
		{Key: "k002", Value: "v", Seq: -1},
		{Key: "k002", Del: true, Seq: api.MaxSeq + 1},
	} {
		l := many(5)
		l[1] = e
		all = append(all, []api.Entry{e}, l)
	}
	for at := range 4 {
		turned, twice, last := many(5), many(5), many(5)
		turned[at], turned[at+1] = turned[at+1], turned[at]
		twice[at+1].Key = twice[at].Key
		last[at+1].Seq = 0
		all = append(all, turned, twice, last)
	}
	return append(all, []api.Entry{{Key: "\x80", Seq: 1}, {Key: "\x7f", Seq: 2}})
}

// asked are keys, rising: those of l, those just above and below each, some farther off, and the empty one.
func asked(l []api.Entry) []string {
	keys := []string{"", "\x00", "a", "b", "k", "\xff", "\xff\xff", long(129), long(300)}
	for _, e := range l {
		n := len(e.Key)
		keys = append(keys, e.Key, e.Key+"\x00", e.Key+"\xff", e.Key[:n-1], e.Key[:n-1]+string([]byte{e.Key[n-1] - 1}), e.Key[:n-1]+string([]byte{e.Key[n-1] + 1}))
	}
	slices.Sort(keys)
	return slices.Compact(keys)
}

func sameOpening(a, b api.Opening) bool {
	return a.At == b.At && bytes.Equal(a.Leaf, b.Leaf) && slices.Equal(a.Path, b.Path)
}

func samePoint(p, q api.Point) bool {
	return p.Between == q.Between && sameOpening(p.A, q.A) && sameOpening(p.B, q.B)
}

func cloneOpening(o api.Opening) api.Opening {
	return api.Opening{At: o.At, Leaf: bytes.Clone(o.Leaf), Path: slices.Clone(o.Path)}
}

func clonePoint(p api.Point) api.Point {
	return api.Point{Between: p.Between, A: cloneOpening(p.A), B: cloneOpening(p.B)}
}

// described is the table of l, which is fit.
func described(t *testing.T, w tree.Tree, l []api.Entry) api.Table {
	t.Helper()
	x, err := table.Describe(w, 1, l)
	if err != api.OK {
		t.Fatalf("Describe of %v: %v", l, err)
	}
	return x
}

// proved is the point of a key that is covered.
func proved(t *testing.T, w tree.Tree, l []api.Entry, key string) api.Point {
	t.Helper()
	p, err := Prove(w, l, key)
	if err != api.OK {
		t.Fatalf("Prove of %q: %v", key, err)
	}
	return p
}

// refused asks that p shows nothing of key.
func refused(t *testing.T, w tree.Tree, x api.Table, key string, p api.Point, what string) {
	t.Helper()
	if e, is, err := Check(w, x, key, p); err != api.ErrProof || is || e != (api.Entry{}) {
		t.Errorf("Check of %q, %s: %v, %v, %v", key, what, e, is, err)
	}
}

// heldCheck holds Check against the model, and tells what both say.
func heldCheck(t *testing.T, w tree.Tree, x api.Table, key string, p api.Point, what string) (api.Entry, bool, api.Errno) {
	t.Helper()
	e, is, err := Check(w, x, key, p)
	wantE, wantIs, wantErr := modelCheck(w.Bits, x, key, p)
	if e != wantE || is != wantIs || err != wantErr {
		t.Errorf("Check of %q, %d bits, %s: %v, %v, %v, not %v, %v, %v: %.300v", key, w.Bits, what, e, is, err, wantE, wantIs, wantErr, p)
	}
	return e, is, err
}

// L1: below First, First, between, Last, above it.
func TestCovers(t *testing.T) {
	x := api.Table{First: "b", Last: "d"}
	for _, c := range []struct {
		x    api.Table
		key  string
		want bool
	}{
		{x, "", false}, {x, "a", false}, {x, "a\xff", false},
		{x, "b", true},
		{x, "b\x00", true}, {x, "bzz", true}, {x, "c", true}, {x, "c\xff", true},
		{x, "d", true},
		{x, "d\x00", false}, {x, "da", false}, {x, "e", false}, {x, "\xff", false},
		{api.Table{First: "k", Last: "k"}, "k", true},
		{api.Table{First: "k", Last: "k"}, "k\x00", false},
		{api.Table{First: "k", Last: "k"}, "j", false},
		{api.Table{First: "ab", Last: "b"}, "a", false},
		{api.Table{First: "\x7f", Last: "\x80"}, "\x7f\xff", true},
		{api.Table{First: "d", Last: "b"}, "c", false},
		{api.Table{First: "d", Last: "b"}, "d", false},
		{api.Table{First: "d", Last: "b"}, "b", false},
		{api.Table{}, "", true}, {api.Table{}, "a", false},
		{api.Table{Level: -1, Count: -1, First: "b", Last: "d"}, "c", true},
	} {
		if is := Covers(c.x, c.key); is != c.want {
			t.Errorf("Covers of %q to %q, %q: %v", c.x.First, c.x.Last, c.key, is)
		}
	}
}

// texts are some that are near each other, the empty one among them.
var texts = []string{"", "\x00", "a", "a\x00", "aa", "b", "b\x00", "c", "\x7f", "\x80", "\xff", "\xff\x00"}

func TestCoversAll(t *testing.T) {
	for _, first := range texts {
		for _, last := range texts {
			for _, key := range texts {
				x := api.Table{First: first, Last: last}
				if is := Covers(x, key); is != modelCovers(x, key) {
					t.Errorf("Covers of %q to %q, %q: %v", first, last, key, is)
				}
			}
		}
	}
}

// L1: hi empty, hi that is lo, hi below lo, and ends that just touch First or Last.
func TestOverlaps(t *testing.T) {
	x := api.Table{First: "b", Last: "d"}
	for _, c := range []struct {
		x      api.Table
		lo, hi string
		want   bool
	}{
		{x, "", "", true}, {x, "a", "", true}, {x, "b", "", true}, {x, "c", "", true}, {x, "d", "", true},
		{x, "d\x00", "", false}, {x, "e", "", false},
		{x, "c", "c", false}, {x, "b", "b", false}, {x, "d", "d", false}, {x, "a", "a", false},
		{x, "d", "b", false}, {x, "c", "b", false}, {x, "e", "a", false}, {x, "c\x00", "c", false}, {x, "d", "c\xff", false},
		{x, "", "a", false}, {x, "a", "b", false}, {x, "", "b", false}, {x, "a", "b\x00", true}, {x, "", "b\x00", true},
		{x, "b", "b\x00", true}, {x, "b\x00", "b\x01", true}, {x, "c", "c\x00", true},
		{x, "d", "e", true}, {x, "d", "d\x00", true}, {x, "d\x00", "e", false}, {x, "e", "f", false},
		{x, "a", "e", true}, {x, "b", "d", true}, {x, "c", "d", true},
		{api.Table{First: "k", Last: "k"}, "k", "k\x00", true},
		{api.Table{First: "k", Last: "k"}, "k", "k", false},
		{api.Table{First: "k", Last: "k"}, "j", "k", false},
		{api.Table{First: "k", Last: "k"}, "k\x00", "", false},
		{api.Table{First: "k", Last: "k"}, "", "", true},
		{api.Table{}, "", "", true}, {api.Table{}, "", "a", true}, {api.Table{}, "a", "", false},
		// Of a table that is none the words hold all the same.
		{api.Table{First: "d", Last: "b"}, "b", "", true},
		{api.Table{First: "d", Last: "b"}, "b", "d", false},
		{api.Table{First: "d", Last: "b"}, "b", "e", true},
		{api.Table{First: "d", Last: "b"}, "c", "", false},
	} {
		if is := Overlaps(c.x, c.lo, c.hi); is != c.want {
			t.Errorf("Overlaps of %q to %q, from %q to %q: %v", c.x.First, c.x.Last, c.lo, c.hi, is)
		}
	}
}

// L1: of a table whose ends rise, there is a key that is asked for and covered: the greater one of lo and First.
func TestOverlapsAll(t *testing.T) {
	for _, first := range texts {
		for _, last := range texts {
			for _, lo := range texts {
				for _, hi := range texts {
					x := api.Table{First: first, Last: last}
					is := Overlaps(x, lo, hi)
					if is != modelOverlaps(x, lo, hi) {
						t.Errorf("Overlaps of %q to %q, from %q to %q: %v", first, last, lo, hi, is)
					}
					key := max(lo, first)
					if first <= last && is != (Covers(x, key) && asks(lo, hi, key)) {
						t.Errorf("Overlaps of %q to %q, from %q to %q: %v, and %q", first, last, lo, hi, is, key)
					}
				}
			}
		}
	}
}

// L2: the chapter's example.
func TestProveExample(t *testing.T) {
	l, x := two(), described(t, whole, two())
	a := api.Opening{At: 0, Leaf: []byte("\x00\x01\x01a\x00"), Path: []api.Digest{digest(sumC)}}
	c := api.Opening{At: 1, Leaf: []byte("\x00\x02\x01c\x00"), Path: []api.Digest{digest(sumA)}}
	if x.Root != digest(sumAC) {
		t.Fatalf("the root: %x", x.Root)
	}
	for _, w := range []struct {
		key  string
		want api.Point
		e    api.Entry
		is   bool
	}{
		{"a", api.Point{A: a}, l[0], true},
		{"b", api.Point{Between: true, A: a, B: c}, api.Entry{}, false},
		{"c", api.Point{A: c}, l[1], true},
	} {
		p, err := Prove(whole, l, w.key)
		if err != api.OK || !samePoint(p, w.want) {
			t.Errorf("Prove of %s: %v, %v", w.key, p, err)
		}
		if e, is, err := Check(whole, x, w.key, w.want); e != w.e || is != w.is || err != api.OK {
			t.Errorf("Check of %s: %v, %v, %v", w.key, e, is, err)
		}
	}
	for _, key := range []string{"", "A", "`\xff", "c\x00", "d"} {
		if p, err := Prove(whole, l, key); err != api.ErrNone || !samePoint(p, api.Point{}) {
			t.Errorf("Prove of %q: %v, %v", key, p, err)
		}
	}
}

// L2: lists that are not fit, of keys that are there, between, and beside them: ErrArg comes first.
func TestProveOfNoFitList(t *testing.T) {
	for _, l := range notFit() {
		keys := []string{"", "a", "k001", "k002", "k004", "k005", "\xff"}
		for _, e := range l {
			keys = append(keys, e.Key)
		}
		for _, key := range keys {
			if p, err := Prove(whole, l, key); err != api.ErrArg || !samePoint(p, api.Point{}) {
				t.Errorf("Prove of %.20q in %.200v: %v, %v", key, l, p, err)
			}
		}
	}
}

// L2: keys below the first and above the last one, each key that is there, and keys in each gap; every point is checked.
func TestProveAndCheck(t *testing.T) {
	for _, l := range lists() {
		bits := keeps
		if len(l) > 9 {
			bits = []int{0, 8, 256}
		}
		for _, keep := range bits {
			w := tree.Tree{Bits: keep}
			x := described(t, w, l)
			if x != modelTable(keep, l) {
				t.Fatalf("Describe of %v: %v", l, x)
			}
			for _, key := range asked(l) {
				checkKey(t, w, x, l, key)
			}
		}
	}
}

func checkKey(t *testing.T, w tree.Tree, x api.Table, l []api.Entry, key string) {
	t.Helper()
	p, err := Prove(w, l, key)
	want, wantErr := modelProve(w.Bits, l, key)
	if err != wantErr || !samePoint(p, want) {
		t.Errorf("Prove of %q in %d entries, %d bits: %v, %v, not %v, %v", key, len(l), w.Bits, p, err, want, wantErr)
	}
	if (err == api.OK) != Covers(x, key) {
		t.Errorf("Prove of %q in %d entries: %v, and Covers %v", key, len(l), err, Covers(x, key))
	}
	e, is, err := heldCheck(t, w, x, key, p, "its own point")
	if !Covers(x, key) {
		if err != api.ErrProof {
			t.Errorf("Check of %q beside the table: %v", key, err)
		}
		return
	}
	at := slices.IndexFunc(l, func(e api.Entry) bool { return e.Key == key })
	if err != api.OK || is != (at >= 0) || is && e != l[at] || !is && e != (api.Entry{}) {
		t.Errorf("Check of %q in %d entries, %d bits: %v, %v, %v", key, len(l), w.Bits, e, is, err)
	}
	if most := 6; len(p.A.Path) > most || len(p.B.Path) > most {
		t.Errorf("Prove of %q in %d entries: %d and %d digests", key, len(l), len(p.A.Path), len(p.B.Path))
	}
}

// L2: a point shows what there is of its own key, or of the keys of its own gap, alone.
func TestCheckOfOtherKeys(t *testing.T) {
	for _, l := range few() {
		for _, keep := range []int{0, 8, 256} {
			w := tree.Tree{Bits: keep}
			x := described(t, w, l)
			keys := asked(l)
			for _, mine := range keys {
				p, err := Prove(w, l, mine)
				if err != api.OK {
					continue
				}
				for _, key := range keys {
					fits := key == mine
					if p.Between {
						fits = l[p.A.At].Key < key && key < l[p.B.At].Key
					}
					if _, _, err := heldCheck(t, w, x, key, p, "the point of "+mine); (err == api.OK) != fits {
						t.Errorf("Check of %q with the point of %q: %v", key, mine, err)
					}
				}
			}
		}
	}
}

// L2: a table that does not cover the key, whatever the point shows.
func TestCheckBesideTheTable(t *testing.T) {
	l := many(5)
	x := described(t, whole, l)
	for _, key := range []string{"k002", "k003"} {
		p := proved(t, whole, l, key)
		for _, c := range []struct {
			first, last string
			fits        bool
		}{
			{"k000", "k008", true}, {key, "k008", true}, {"k000", key, true}, {key, key, true}, {"", "\xff", true},
			{key + "\x00", "k008", false}, {"k004", "k008", false}, {"k000", "k001", false}, {"k000", key[:3], false}, {"k008", "k000", false}, {"", "", false},
		} {
			y := x
			y.First, y.Last = c.first, c.last
			if _, _, err := heldCheck(t, whole, y, key, p, "other ends"); (err == api.OK) != c.fits {
				t.Errorf("Check of %s in a table from %q to %q: %v", key, c.first, c.last, err)
			}
		}
	}
	// Where a table's ends are farther off than its entries, nothing shows what lies beside these.
	y := x
	y.First, y.Last = "a", "z"
	for _, key := range []string{"a", "k", "k00", "k008\x00", "k009", "z"} {
		for i := range l {
			for j := range l {
				refused(t, whole, y, key, api.Point{A: modelOpening(256, l, i)}, "one entry")
				refused(t, whole, y, key, api.Point{Between: true, A: modelOpening(256, l, i), B: modelOpening(256, l, j)}, "two entries")
			}
		}
	}
}

// otherPaths are paths that are not path: longer, shorter, with a digest turned, with two exchanged.
func otherPaths(path []api.Digest) [][]api.Digest {
	var all [][]api.Digest
	for i := range len(path) + 1 {
		all = append(all, slices.Insert(slices.Clone(path), i, api.Digest{}))
		if i == len(path) {
			break
		}
		all = append(all, slices.Delete(slices.Clone(path), i, i+1))
		all = append(all, slices.Insert(slices.Clone(path), i, path[i]))
		for _, bit := range []int{0, 7, 100, 255} {
			p := slices.Clone(path)
			p[i][bit/8] ^= 0x80 >> (bit % 8)
			all = append(all, p)
		}
		if i > 0 && path[i] != path[i-1] {
			p := slices.Clone(path)
			p[i], p[i-1] = p[i-1], p[i]
			all = append(all, p)
		}
	}
	if len(path) > 0 {
		all = append(all, nil, slices.Concat(path, path))
	}
	return all
}

// otherLeaves are leaves that are not leaf: a bit turned, a byte more, a byte less, none.
func otherLeaves(leaf []byte) [][]byte {
	all := [][]byte{nil, {}, {0}, slices.Concat(leaf, leaf)}
	step := 1 + len(leaf)/10 // a long leaf has too many bits to turn each
	for bit := 0; bit < 8*len(leaf); bit += step {
		b := bytes.Clone(leaf)
		b[bit/8] ^= 0x80 >> (bit % 8)
		all = append(all, b)
	}
	for i := 0; i < len(leaf); i += step {
		all = append(all, slices.Delete(bytes.Clone(leaf), i, i+1))
	}
	for _, c := range []byte{0, 1, 0xff} {
		all = append(all, append(bytes.Clone(leaf), c), append([]byte{c}, leaf...))
	}
	return slices.DeleteFunc(all, func(b []byte) bool { return bytes.Equal(b, leaf) })
}

// otherOpenings are openings of which one thing is not as in o.
func otherOpenings(o api.Opening, count int) []api.Opening {
	var all []api.Opening
	for _, at := range []int{math.MinInt, -o.At - 1, -1, 0, 1, o.At - 1, o.At + 1, count - 1, count, count + 1, o.At + count, o.At + 64, math.MaxInt - 1, math.MaxInt} {
		if at != o.At {
			all = append(all, api.Opening{At: at, Leaf: o.Leaf, Path: o.Path})
		}
	}
	for _, leaf := range otherLeaves(o.Leaf) {
		all = append(all, api.Opening{At: o.At, Leaf: leaf, Path: o.Path})
	}
	for _, path := range otherPaths(o.Path) {
		all = append(all, api.Opening{At: o.At, Leaf: o.Leaf, Path: path})
	}
	return append(all, api.Opening{})
}

// otherPoints are points of which one thing is not as in p, a point that Prove made of l.
func otherPoints(keep int, l []api.Entry, p api.Point) []api.Point {
	var all []api.Point
	for _, a := range otherOpenings(p.A, len(l)) {
		all = append(all, api.Point{Between: p.Between, A: a, B: p.B})
	}
	for i := range l {
		o := modelOpening(keep, l, i)
		all = append(all, api.Point{Between: true, A: p.A, B: o}, api.Point{Between: true, A: o, B: p.B})
		all = append(all, api.Point{A: p.A, B: o}, api.Point{A: o, B: p.B})
	}
	if p.Between {
		for _, b := range otherOpenings(p.B, len(l)) {
			all = append(all, api.Point{Between: true, A: p.A, B: b})
		}
		all = append(all, api.Point{Between: true, A: p.B, B: p.A}, api.Point{A: p.A}, api.Point{A: p.B})
	} else {
		for _, b := range []api.Opening{{At: 1}, {At: -1}, {At: math.MinInt}, {Leaf: []byte{0}}, {Leaf: p.A.Leaf}, {Path: []api.Digest{{}}}, {Path: []api.Digest{{1}, {2}}}, p.A} {
			all = append(all, api.Point{A: p.A, B: b})
		}
	}
	all = append(all, api.Point{Between: !p.Between, A: p.A, B: p.B}, api.Point{Between: p.Between, A: p.B, B: p.A})
	all = append(all, api.Point{}, api.Point{Between: true})
	return slices.DeleteFunc(all, func(q api.Point) bool { return samePoint(p, q) })
}

// L2: points of which one thing is another one. Where sums keep all bits none is taken; where they keep less, those that the words take.
func TestCheckOfOtherPoints(t *testing.T) {
	for _, l := range few() {
		for _, keep := range []int{0, 2, 256} {
			w := tree.Tree{Bits: keep}
			x := described(t, w, l)
			for _, key := range asked(l) {
				p, err := Prove(w, l, key)
				if err != api.OK {
					continue
				}
				for _, q := range otherPoints(keep, l, p) {
					if _, _, err := heldCheck(t, w, x, key, q, "another point"); keep == 256 && err == api.OK {
						t.Errorf("Check of %q, %d entries: taken: %.300v", key, len(l), q)
					}
				}
			}
		}
	}
}

// L2: one thing at a time, each named.
func TestCheckOneThing(t *testing.T) {
	l := many(6)
	x := described(t, whole, l)
	at, gap := proved(t, whole, l, "k004"), proved(t, whole, l, "k005")
	open := func(i int) api.Opening { return modelOpening(256, l, i) }
	for _, c := range []struct {
		what string
		key  string
		p    api.Point
	}{
		{"B has a place", "k004", api.Point{A: at.A, B: api.Opening{At: 3}}},
		{"B has a leaf", "k004", api.Point{A: at.A, B: api.Opening{Leaf: []byte{0}}}},
		{"B has a path", "k004", api.Point{A: at.A, B: api.Opening{Path: []api.Digest{{}}}}},
		{"B is a neighbour", "k004", api.Point{A: at.A, B: open(3)}},
		{"Between turned round, there", "k004", api.Point{Between: true, A: at.A}},
		{"Between turned round, not there", "k005", api.Point{A: gap.A, B: gap.B}},
		{"the neighbour alone", "k005", api.Point{A: gap.A}},
		{"not neighbours, B too far", "k005", api.Point{Between: true, A: open(2), B: open(4)}},
		{"not neighbours, A too far", "k005", api.Point{Between: true, A: open(1), B: open(3)}},
		{"a key that is there, left out", "k004", api.Point{Between: true, A: open(1), B: open(3)}},
		{"the key itself at the left", "k004", api.Point{Between: true, A: open(2), B: open(3)}},
		{"the key itself at the right", "k004", api.Point{Between: true, A: open(1), B: open(2)}},
		{"both the same", "k005", api.Point{Between: true, A: open(2), B: open(2)}},
		{"exchanged", "k005", api.Point{Between: true, A: open(3), B: open(2)}},
		{"the gap ahead", "k005", api.Point{Between: true, A: open(1), B: open(2)}},
		{"the gap behind", "k005", api.Point{Between: true, A: open(3), B: open(4)}},
		{"no B", "k005", api.Point{Between: true, A: open(2)}},
		{"no A", "k005", api.Point{Between: true, B: open(3)}},
	} {
		refused(t, whole, x, c.key, c.p, c.what)
	}
	// A list without items is nothing, be it nil or empty.
	p := api.Point{A: at.A, B: api.Opening{Leaf: []byte{}, Path: []api.Digest{}}}
	if e, is, err := Check(whole, x, "k004", p); e != l[2] || !is || err != api.OK {
		t.Errorf("Check with a B of empty lists: %v, %v, %v", e, is, err)
	}
}

// L2: a table of another Root or Count. A Count whose tree has the leaf's path in the same shape is taken, as Check (5) takes it.
func TestCheckOfOtherTables(t *testing.T) {
	for _, l := range few() {
		for _, keep := range []int{0, 2, 256} {
			w := tree.Tree{Bits: keep}
			x := described(t, w, l)
			for _, key := range asked(l) {
				p, err := Prove(w, l, key)
				if err != api.OK {
					continue
				}
				for _, bit := range []int{0, 1, 100, 255} {
					y := x
					y.Root[bit/8] ^= 0x80 >> (bit % 8)
					refused(t, w, y, key, p, "another root")
				}
				for _, count := range []int{math.MinInt, -1, 0, 1, len(l) - 1, len(l) + 1, 2 * len(l), 64, 1 << 40, math.MaxInt} {
					y := x
					y.Count = count
					_, _, err := heldCheck(t, w, y, key, p, fmt.Sprint("count ", count))
					if count <= max(p.A.At, p.B.At) && err == api.OK {
						t.Errorf("Check of %q: places %d and %d of %d", key, p.A.At, p.B.At, count)
					}
				}
				y := x
				y.Level = -7
				if _, _, err := Check(w, y, key, p); err != api.OK {
					t.Errorf("Check of %q: another level: %v", key, err)
				}
			}
		}
	}
	l := two()
	x := described(t, whole, l)
	p := proved(t, whole, l, "c")
	for _, count := range []int{0, 1, 3, 4, 64} {
		y := x
		y.Count = count
		refused(t, whole, y, "c", p, fmt.Sprint("of two leaves, count ", count))
	}
	three := many(3)
	y := described(t, whole, three)
	y.Count = 4
	if e, is, err := Check(whole, y, "k000", proved(t, whole, three, "k000")); e != three[0] || !is || err != api.OK {
		t.Errorf("Check of the first of three, count 4: %v, %v, %v", e, is, err)
	}
}

// odd are leaves that are not Bytes of just one entry, though most begin with some of the key b.
func odd() map[string][]byte {
	good := "\x00\x01\x01b\x01v"
	return map[string][]byte{
		"nothing":              nil,
		"a byte behind":        []byte(good + "\x00"),
		"an entry behind":      []byte(good + good),
		"a byte too few":       []byte(good[:len(good)-1]),
		"a kind that is none":  []byte("\x02\x01\x01b\x01v"),
		"no Seq":               []byte("\x00\x00\x01b\x01v"),
		"a Seq too great":      []byte("\x00" + rawNumber(1<<40+1) + "\x01b\x01v"),
		"a Seq beyond an int":  []byte("\x00" + rawNumber(math.MaxUint64) + "\x01b\x01v"),
		"a longer number":      []byte("\x00\x81\x00\x01b\x01v"),
		"a longer text number": []byte("\x00\x01\x81\x00b\x01v"),
		"no key":               []byte("\x00\x01\x00\x01v"),
		"a key too long":       []byte("\x00\x01" + rawText("b"+long(128)) + "\x01v"),
		"a value too long":     []byte("\x00\x01\x01b" + rawText(long(1025))),
		"Del with a value":     []byte("\x01\x01\x01b\x01v"),
		"letters":              []byte("b"),
	}
}

// underRoot is a table of any leaves, be they entries' or not, that covers all keys that tests ask for.
func underRoot(w tree.Tree, leaves ...[]byte) api.Table {
	return api.Table{Count: len(leaves), Root: w.Root(leaves), First: "", Last: "\xff\xff"}
}

// opened is the opening of one of them.
func opened(t *testing.T, w tree.Tree, leaves [][]byte, at int) api.Opening {
	t.Helper()
	path, err := w.Path(leaves, at)
	if err != api.OK {
		t.Fatal(err)
	}
	return api.Opening{At: at, Leaf: leaves[at], Path: path}
}

// L2: leaves that are under the root, and are not Bytes of just one entry.
func TestCheckOfOddLeaves(t *testing.T) {
	a, d := []byte(rawLeaf(api.Entry{Key: "a", Seq: 1})), []byte(rawLeaf(api.Entry{Key: "d", Del: true, Seq: 1}))
	for what, leaf := range odd() {
		for _, keep := range []int{0, 256} {
			w := tree.Tree{Bits: keep}
			leaves := [][]byte{a, leaf, d}
			x := underRoot(w, leaves...)
			o := opened(t, w, leaves, 1)
			if !w.Check(x.Root, 3, 1, o.Leaf, o.Path) {
				t.Fatal("the leaf is not under the root")
			}
			for _, key := range []string{"", "b", "b" + long(128), "c", "aa"} {
				refused(t, w, x, key, api.Point{A: o}, what)
				refused(t, w, x, key, api.Point{Between: true, A: opened(t, w, leaves, 0), B: o}, what)
				refused(t, w, x, key, api.Point{Between: true, A: o, B: opened(t, w, leaves, 2)}, what)
			}
			alone := underRoot(w, leaf)
			refused(t, w, alone, "b", api.Point{A: opened(t, w, [][]byte{leaf}, 0)}, what+", alone")
		}
	}
	// The same places with a right leaf are taken.
	b := []byte(rawLeaf(api.Entry{Key: "b", Value: "v", Seq: 1}))
	leaves := [][]byte{a, b, d}
	x := underRoot(whole, leaves...)
	if e, is, err := Check(whole, x, "b", api.Point{A: opened(t, whole, leaves, 1)}); e != (api.Entry{Key: "b", Value: "v", Seq: 1}) || !is || err != api.OK {
		t.Errorf("Check of a right leaf: %v, %v, %v", e, is, err)
	}
	if e, is, err := Check(whole, x, "c", api.Point{Between: true, A: opened(t, whole, leaves, 1), B: opened(t, whole, leaves, 2)}); e != (api.Entry{}) || is || err != api.OK {
		t.Errorf("Check between right leaves: %v, %v, %v", e, is, err)
	}
	if e, is, err := Check(whole, x, "d", api.Point{A: opened(t, whole, leaves, 2)}); e != (api.Entry{Key: "d", Del: true, Seq: 1}) || !is || err != api.OK {
		t.Errorf("Check of a leaf with Del: %v, %v, %v", e, is, err)
	}
}

// L2: places at the greatest numbers, in a tree of so many leaves that nobody has them.
func TestCheckAtTheGreatestPlaces(t *testing.T) {
	none := tree.Tree{Bits: 0} // all sums are one, so that any path of the right length leads to the root
	a, b := api.Entry{Key: "a", Seq: 1}, api.Entry{Key: "c", Seq: 1}
	x := api.Table{Count: math.MaxInt, First: "a", Last: "c"}
	for at, want := range map[int]int{math.MaxInt - 3: 1, math.MaxInt - 2: 1, math.MaxInt - 1: 0} {
		taken := 0
		for left := range 70 {
			for right := range 70 {
				p := api.Point{Between: true, A: api.Opening{At: at, Leaf: []byte(rawLeaf(a)), Path: make([]api.Digest, left)}}
				p.B = api.Opening{At: at + 1, Leaf: []byte(rawLeaf(b)), Path: make([]api.Digest, right)}
				if _, _, err := heldCheck(t, none, x, "b", p, fmt.Sprint("place ", at)); err == api.OK {
					taken++
				}
			}
		}
		if taken != want {
			t.Errorf("Check at the place %d: taken %d times", at, taken)
		}
	}
}
