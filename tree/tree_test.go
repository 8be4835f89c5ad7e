package tree

import (
	"bytes"
	"crypto/sha256"
	"encoding/hex"
	"fmt"
	"math"
	"slices"
	"strings"
	"testing"

	"marlstone/api"
)

// counts are those that the tests take trees of.
var counts = []int{0, 1, 2, 3, 4, 5, 6, 7, 8, 9, 15, 16, 17, 31, 33, 64, 65}

// keeps are numbers of bits: those that there are, and some below and above.
var keeps = []int{math.MinInt, math.MinInt + 1, -256, -8, -1, 0, 1, 2, 7, 8, 9, 100, 255, 256, 257, 264, 512, math.MaxInt - 1, math.MaxInt}

// unlike are n leaves of which no two are the same, the first one empty.
func unlike(n int) [][]byte {
	var l [][]byte
	for i := range n {
		l = append(l, bytes.Repeat([]byte{byte(i)}, i))
	}
	return l
}

// alike are n leaves that are all the same.
func alike(n int, b []byte) [][]byte {
	var l [][]byte
	for range n {
		l = append(l, bytes.Clone(b))
	}
	return l
}

// lists are leaves of many kinds: unlike ones, like ones, empty ones, some like each other, and some that look like a node's text.
func lists(n int) [][][]byte {
	var some, nodes [][]byte
	for i := range n {
		some = append(some, []byte{byte(i % 3)}[:min(i%3, 1)])
		nodes = append(nodes, []byte("\x01"+strings.Repeat(string(rune('a'+i%2)), 64)))
	}
	return [][][]byte{unlike(n), alike(n, []byte("a")), alike(n, nil), alike(n, []byte{}), some, nodes}
}

func abc() [][]byte { return [][]byte{[]byte("a"), []byte("b"), []byte("c")} }

// turned is d with one bit turned.
func turned(d api.Digest, bit int) api.Digest {
	d[bit/8%32] ^= 0x80 >> (bit % 8)
	return d
}

func same(a, b []api.Digest) bool { return slices.Equal(a, b) }

// E1: the text of a leaf.
func TestLeaf(t *testing.T) {
	texts := [][]byte{nil, {}, {0}, {1}, []byte("a"), []byte("\x00a"), bytes.Repeat([]byte{0xff}, 63), make([]byte, 64), make([]byte, 5000)}
	for _, b := range texts {
		for _, keep := range keeps {
			if d := (Tree{keep}).Leaf(b); d != wantLeaf(keep, b) {
				t.Errorf("Leaf of %.20x, %d bits: %x", b, keep, d)
			}
		}
	}
	if d := (Tree{256}).Leaf(nil); d != sha256.Sum256([]byte{0}) {
		t.Errorf("Leaf of nothing: %x", d)
	}
}

// E1: the text of a node, which has a left and a right, and is summed whole, whatever few bits are kept.
func TestNode(t *testing.T) {
	a, b := api.Digest(sha256.Sum256([]byte("a"))), api.Digest(sha256.Sum256([]byte("b")))
	for _, p := range [][2]api.Digest{{a, b}, {b, a}, {a, a}, {{}, a}, {a, {}}, {{}, {}}, {turned(a, 255), b}, {a, turned(b, 255)}} {
		for _, keep := range keeps {
			if d := (Tree{keep}).Node(p[0], p[1]); d != wantNode(keep, p[0], p[1]) {
				t.Errorf("Node of %x, %x, %d bits: %x", p[0], p[1], keep, d)
			}
		}
	}
	w := Tree{256}
	if w.Node(a, b) == w.Node(b, a) {
		t.Error("left and right are one")
	}
	if w.Leaf(append(a[:], b[:]...)) == w.Node(a, b) {
		t.Error("a leaf and a node have one text")
	}
}

// E1: roots that are known from elsewhere: those of the well-known leaves of RFC 6962's tests.
func TestRootsThatAreKnown(t *testing.T) {
	var leaves [][]byte
	for _, s := range []string{"", "00", "10", "2021", "3031", "40414243", "5051525354555657", "606162636465666768696a6b6c6d6e6f"} {
		b, _ := hex.DecodeString(s)
		leaves = append(leaves, b)
	}
	roots := []string{
		"e3b0c44298fc1c149afbf4c8996fb92427ae41e4649b934ca495991b7852b855",
		"6e340b9cffb37a989ca544e6bb780a2c78901d3fb33738768511a30617afa01d",
		"fac54203e7cc696cf0dfcb42c92a1d9dbaf70ad9e621f4bd8d98662f00e3c125",
		"aeb6bcfe274b70a14fb067a5e5578264db0fa9b51af5e0ba159158f329e06e77",
		"d37ee418976dd95753c1c73862b9398fa2a2cf9b4ff0fdfe8b30cd95209614b7",
		"4e3bbb1f7b478dcfe71fb631631519a3bca12c9aefca1612bfce4c13a86264d4",
		"76e67dadbcdf1e10e1b74ddc608abd2f98dfb16fbce75277b5232a127f2087ef",
		"ddb89be403809e325750d3d263cd78929c2942b7942a34b77e122c9594a74c8c",
		"5dc9da79a70659a9ad559cb701ded9a2ab9d823aad2f4960cfe370eff4604328",
	}
	for n, want := range roots {
		if d := Root(leaves[:n]); hex.EncodeToString(d[:]) != want {
			t.Errorf("the root of %d leaves: %x, not %s", n, d, want)
		}
	}
}

// E1: each number of leaves, of many kinds, and bits.
func TestRoot(t *testing.T) {
	for _, n := range counts {
		for k, l := range lists(n) {
			for _, keep := range keeps {
				if d := (Tree{keep}).Root(l); d != wantRoot(keep, l) {
					t.Errorf("the root of %d leaves of kind %d, %d bits: %x", n, k, keep, d)
				}
			}
		}
	}
	for n := range 140 {
		if l := unlike(n); (Tree{256}).Root(l) != wantRoot(256, l) {
			t.Errorf("the root of %d leaves", n)
		}
	}
	if l := alike(3001, []byte("x")); (Tree{20}).Root(l) != wantRoot(20, l) {
		t.Error("the root of 3001 leaves")
	}
	if (Tree{256}).Root(nil) != (Tree{256}).Root([][]byte{}) {
		t.Error("no leaves, nil or empty, have two roots")
	}
}

// E1: no bits make all sums one; a tree made by nobody has none.
func TestNoBits(t *testing.T) {
	for _, w := range []Tree{{}, {0}, {-1}, {math.MinInt}} {
		for _, n := range counts {
			if d := w.Root(unlike(n)); d != (api.Digest{}) {
				t.Errorf("the root of %d leaves, %d bits: %x", n, w.Bits, d)
			}
		}
	}
}

// E2, E3: the chapter's example.
func TestExample(t *testing.T) {
	for _, keep := range []int{1, 8, 255, 256} {
		w := Tree{keep}
		l := abc()
		a, b, c := w.Leaf(l[0]), w.Leaf(l[1]), w.Leaf(l[2])
		ab := w.Node(a, b)
		if w.Root(l) != w.Node(ab, c) {
			t.Errorf("%d bits: the root", keep)
		}
		for i, want := range [][]api.Digest{{b, c}, {a, c}, {ab}} {
			if p, err := w.Path(l, i); err != api.OK || !same(p, want) {
				t.Errorf("%d bits: Path of %d: %x, %v", keep, i, p, err)
			}
		}
		for _, x := range []struct {
			from, to int
			want     []api.Digest
		}{{1, 3, []api.Digest{a}}, {0, 1, []api.Digest{b, c}}, {1, 2, []api.Digest{a, c}}, {2, 3, []api.Digest{ab}}, {0, 2, []api.Digest{c}}, {0, 3, nil}} {
			if p, err := w.Range(l, x.from, x.to); err != api.OK || !same(p, x.want) {
				t.Errorf("%d bits: Range of %d to %d: %x, %v", keep, x.from, x.to, p, err)
			}
		}
		if !w.Check(a, 1, 0, l[0], nil) || !w.Check(a, 1, 0, l[0], []api.Digest{}) || w.Check(turned(a, 0), 1, 0, l[0], nil) {
			t.Errorf("%d bits: Check of count 1", keep)
		}
	}
}

// E2: Path at each place; what it tells is taken.
func TestPath(t *testing.T) {
	for _, n := range counts {
		for k, l := range lists(n) {
			for _, keep := range []int{-1, 0, 1, 8, 255, 256, 257} {
				w := Tree{keep}
				root := w.Root(l)
				for i := range n {
					p, err := w.Path(l, i)
					if err != api.OK || !same(p, wantPath(keep, l, i)) {
						t.Errorf("Path of %d of %d, kind %d, %d bits: %x, %v", i, n, k, keep, p, err)
					}
					if !w.Check(root, n, i, l[i], p) {
						t.Errorf("Check of Path of %d of %d, kind %d, %d bits: refused", i, n, k, keep)
					}
				}
			}
		}
	}
}

// E2: places that there are not.
func TestPathOfNoPlace(t *testing.T) {
	for _, n := range counts {
		for _, i := range []int{math.MinInt, math.MinInt + 1, -65, -2, -1, n, n + 1, 2 * n, n + 64, 1 << 32, math.MaxInt - 1, math.MaxInt} {
			if i >= 0 && i < n {
				continue
			}
			if p, err := (Tree{256}).Path(unlike(n), i); err != api.ErrArg || p != nil {
				t.Errorf("Path of %d of %d: %x, %v", i, n, p, err)
			}
		}
	}
	if p, err := (Tree{256}).Path(nil, 0); err != api.ErrArg || p != nil {
		t.Errorf("Path of no leaves: %x, %v", p, err)
	}
}

// E3: Range at all places; what it tells is taken.
func TestRange(t *testing.T) {
	for _, n := range counts {
		for k, l := range lists(n) {
			for _, keep := range []int{-1, 0, 1, 8, 255, 256, 257} {
				if n > 17 && (k > 1 || keep != 256) {
					continue // the shapes are those of the others, and there are many
				}
				checkAllRanges(t, Tree{keep}, l)
			}
		}
	}
}

func checkAllRanges(t *testing.T, w Tree, l [][]byte) {
	root := w.Root(l)
	for to := range len(l) + 1 {
		for from := range to {
			p, err := w.Range(l, from, to)
			if err != api.OK || !same(p, wantRange(w.Bits, l, from, to)) {
				t.Errorf("Range of %d to %d of %d, %d bits: %x, %v", from, to, len(l), w.Bits, p, err)
			}
			if !w.CheckRange(root, len(l), from, l[from:to], p) {
				t.Errorf("CheckRange of Range of %d to %d of %d, %d bits: refused", from, to, len(l), w.Bits)
			}
		}
	}
}

// E3: the greatest parts, found by asking every part that there is.
func TestRangeByAllParts(t *testing.T) {
	for n := 1; n <= 20; n++ {
		l := unlike(n)
		for to := range n + 1 {
			for from := range to {
				var want []api.Digest
				var walk func(p part)
				walk = func(p part) {
					has := false
					for i := from; i < to; i++ {
						has = has || p.lo <= uint64(i) && uint64(i) < p.hi
					}
					if !has {
						want = append(want, wantRoot(256, l[p.lo:p.hi]))
					} else if p.hi-p.lo > 1 {
						a, b := p.below()
						walk(a)
						walk(b)
					}
				}
				walk(part{0, uint64(n)})
				if p, err := (Tree{256}).Range(l, from, to); err != api.OK || !same(p, want) {
					t.Errorf("Range of %d to %d of %d: %x, %v", from, to, n, p, err)
				}
			}
		}
	}
}

// E3: places that there are not.
func TestRangeOfNoPlaces(t *testing.T) {
	edges := []int{math.MinInt, math.MinInt + 1, -65, -1, 0, 1, 2, 3, 4, 5, 8, 64, 65, 66, 1 << 32, math.MaxInt - 1, math.MaxInt}
	for _, n := range counts {
		l := unlike(n)
		for _, from := range edges {
			for _, to := range edges {
				p, err := (Tree{256}).Range(l, from, to)
				if 0 <= from && from < to && to <= n {
					if err != api.OK {
						t.Errorf("Range of %d to %d of %d: %v", from, to, n, err)
					}
				} else if err != api.ErrArg || p != nil {
					t.Errorf("Range of %d to %d of %d: %x, %v", from, to, n, p, err)
				}
			}
		}
	}
}

// others are paths that are not path: longer, shorter, turned, exchanged.
func others(path []api.Digest) [][]api.Digest {
	var all [][]api.Digest
	for i := range len(path) + 1 {
		all = append(all, slices.Insert(slices.Clone(path), i, api.Digest{}))
		if i < len(path) {
			all = append(all, slices.Insert(slices.Clone(path), i, path[i]))
			all = append(all, slices.Delete(slices.Clone(path), i, i+1))
			for _, bit := range []int{0, 100, 255} {
				p := slices.Clone(path)
				p[i] = turned(p[i], bit)
				all = append(all, p)
			}
			// Of paths longer than a list's, neighbours alone are exchanged: there would be thousands.
			for k := range i {
				if len(path) > 14 && k < i-1 {
					continue
				}
				p := slices.Clone(path)
				p[i], p[k] = p[k], p[i]
				all = append(all, p)
			}
		}
	}
	return append(all, append(slices.Clone(path), path...), nil)
}

// otherLeaves are some that are not b.
func otherLeaves(b []byte) [][]byte {
	all := [][]byte{append(bytes.Clone(b), 0), append([]byte{0}, b...), []byte("another")}
	if len(b) > 0 {
		turned := bytes.Clone(b)
		turned[len(b)-1] ^= 1
		all = append(all, nil, b[1:], b[:len(b)-1], turned)
	}
	return all
}

// numbersNear are those near 0 and n, and the ones at the ends.
func numbersNear(n int) []int {
	all := []int{math.MinInt, math.MinInt + 1, math.MinInt32, -64, -1, math.MaxInt32, 1 << 62, 1<<62 + 1, math.MaxInt - 1, math.MaxInt}
	for i := range n + 70 {
		if i < 10 || i > n-5 && i < n+5 || i%16 < 2 {
			all = append(all, i)
		}
	}
	return all
}

// E2: whatever is handed to Check but the right thing is held against the chapter's words, with few bits, too, where more is taken.
func TestCheckOfOthers(t *testing.T) {
	for _, keep := range []int{0, 1, 3, 256} {
		w := Tree{keep}
		taken, refused := 0, 0
		ask := func(what string, root api.Digest, count, i int, leaf []byte, path []api.Digest) {
			is := w.Check(root, count, i, leaf, path)
			if is != wantCheck(keep, root, count, i, leaf, path) {
				t.Errorf("%s: Check of %d of %d, %d bits, a path of %d: %v", what, i, count, keep, len(path), is)
			}
			if is {
				taken++
			} else {
				refused++
			}
		}
		for _, n := range []int{1, 2, 3, 4, 5, 7, 8, 9, 64, 65} {
			for _, l := range [][][]byte{unlike(n), alike(n, []byte("a"))} {
				root := w.Root(l)
				for i := 0; i < n; i += 1 + n/20 {
					path, _ := w.Path(l, i)
					for _, p := range others(path) {
						ask("another path", root, n, i, l[i], p)
					}
					for _, b := range otherLeaves(l[i]) {
						ask("another leaf", root, n, i, b, path)
					}
					for _, x := range numbersNear(n) {
						ask("another count", root, x, i, l[i], path)
						ask("another place", root, n, x, l[i], path)
						ask("both others", root, x, x-1, l[i], path)
					}
					for _, bit := range []int{0, 1, 7, 8, 200, 255} {
						ask("another root", turned(root, bit), n, i, l[i], path)
					}
				}
			}
		}
		if taken < 50 || refused < 1000 {
			t.Errorf("%d bits: %d taken, %d refused", keep, taken, refused)
		}
	}
}

// E2: with all bits and unlike leaves nothing else is taken, told without the model.
func TestCheckRefuses(t *testing.T) {
	w := Tree{256}
	for _, n := range []int{1, 2, 3, 4, 5, 7, 8, 9, 64, 65} {
		l := unlike(n)
		root := w.Root(l)
		for i := range n {
			path, _ := w.Path(l, i)
			for _, p := range others(path) {
				if !same(p, path) && w.Check(root, n, i, l[i], p) {
					t.Errorf("Check of %d of %d: another path of %d is taken", i, n, len(p))
				}
			}
			for _, b := range otherLeaves(l[i]) {
				if w.Check(root, n, i, b, path) {
					t.Errorf("Check of %d of %d: leaf %x is taken", i, n, b)
				}
			}
			for _, at := range numbersNear(n) {
				if at != i && w.Check(root, n, at, l[i], path) {
					t.Errorf("Check of %d of %d: taken at %d", i, n, at)
				}
			}
			if w.Check(turned(root, 255), n, i, l[i], path) || w.Check(api.Digest{}, n, i, l[i], path) {
				t.Errorf("Check of %d of %d: another root is taken", i, n)
			}
		}
	}
}

// E2: the number of leaves counts by the shape that it gives: the first of three is at the first place of four, too, the third is not.
func TestCheckByShape(t *testing.T) {
	l := abc()
	root := Root(l)
	for _, x := range []struct {
		i, count int
		is       bool
	}{{0, 3, true}, {0, 4, true}, {1, 4, true}, {2, 4, false}, {0, 5, false}, {0, 2, false}, {2, 3, true}, {2, 5, false}, {2, 8, false}, {2, 1 << 40, false}} {
		p, _ := Path(l, x.i)
		if Check(root, x.count, x.i, l[x.i], p) != x.is {
			t.Errorf("Check of %d of %d: %v", x.i, x.count, !x.is)
		}
	}
}

// hugeCounts are numbers that no list has.
var hugeCounts = []int{1 << 31, 1<<31 + 1, 1<<40 - 1, 1 << 61, 1<<62 - 1, 1 << 62, 1<<62 + 1, math.MaxInt - 1, math.MaxInt}

// E2: counts that no list could have, with a path that suits them: it is taken, and each that is longer or shorter is not.
func TestCheckOfHugeCounts(t *testing.T) {
	w := Tree{256}
	for _, count := range hugeCounts {
		for _, i := range []int{0, 1, 2, count / 3, count / 2, count/2 + 1, 1<<62 - 1, 1 << 62, count - 2, count - 1} {
			if i >= count {
				continue
			}
			_, right := wantBeside(part{0, uint64(count)}, uint64(i))
			up := wantLeaf(256, []byte("leaf"))
			var path []api.Digest
			for k := range right {
				d := api.Digest{byte(k)}
				path = append(path, d)
				if right[k] {
					up = wantNode(256, up, d)
				} else {
					up = wantNode(256, d, up)
				}
			}
			if !w.Check(up, count, i, []byte("leaf"), path) {
				t.Errorf("Check of %d of %d: refused", i, count)
			}
			for _, p := range others(path) {
				if !same(p, path) && w.Check(up, count, i, []byte("leaf"), p) {
					t.Errorf("Check of %d of %d: another path of %d is taken", i, count, len(p))
				}
			}
		}
	}
}

// E2: counts and places that no list could have, with whatever path.
func TestCheckOfNoCounts(t *testing.T) {
	l := abc()
	numbers := []int{math.MinInt, math.MinInt + 1, math.MinInt + 2, -1 << 62, -4, -3, -2, -1, 0, 1, math.MaxInt - 2, math.MaxInt - 1, math.MaxInt}
	for _, keep := range []int{0, 256} {
		w := Tree{keep}
		for _, count := range numbers {
			for _, i := range numbers {
				for n := range 70 {
					path := make([]api.Digest, n)
					root := w.Root(l)
					want := wantCheck(keep, root, count, i, l[0], path)
					if w.Check(root, count, i, l[0], path) != want {
						t.Errorf("Check of %d of %d, a path of %d, %d bits: %v", i, count, n, keep, !want)
					}
					if (i < 0 || i >= count) && want {
						t.Fatal("the model takes what is no place")
					}
				}
			}
		}
		if w.Check(w.Root(nil), 0, 0, nil, nil) {
			t.Errorf("%d bits: a leaf of no leaves is taken", keep)
		}
	}
}

// E3: whatever is handed to CheckRange but the right thing is held against the chapter's words.
func TestCheckRangeOfOthers(t *testing.T) {
	for _, keep := range []int{0, 1, 3, 256} {
		w := Tree{keep}
		taken, refused := 0, 0
		ask := func(what string, root api.Digest, count, from int, leaves [][]byte, path []api.Digest) {
			is := w.CheckRange(root, count, from, leaves, path)
			if is != wantCheckRange(keep, root, count, from, leaves, path) {
				t.Errorf("%s: CheckRange of %d from %d on of %d, %d bits, a path of %d: %v", what, len(leaves), from, count, keep, len(path), is)
			}
			if is {
				taken++
			} else {
				refused++
			}
		}
		for _, n := range []int{1, 2, 3, 4, 5, 7, 8, 9, 64, 65} {
			for _, l := range [][][]byte{unlike(n), alike(n, []byte("a"))} {
				root := w.Root(l)
				for from := 0; from < n; from += 1 + n/6 {
					for to := from + 1; to <= n; to += 1 + n/6 {
						path, _ := w.Range(l, from, to)
						for _, p := range others(path) {
							ask("another path", root, n, from, l[from:to], p)
						}
						for _, q := range otherParts(l, from, to) {
							ask("another part", root, n, from, q, path)
						}
						for _, x := range numbersNear(n) {
							ask("another count", root, x, from, l[from:to], path)
							ask("another place", root, n, x, l[from:to], path)
							ask("both others", root, x, x-(to-from), l[from:to], path)
						}
						ask("another root", turned(root, 0), n, from, l[from:to], path)
						ask("another root", turned(root, 255), n, from, l[from:to], path)
					}
				}
			}
		}
		if taken < 50 || refused < 1000 {
			t.Errorf("%d bits: %d taken, %d refused", keep, taken, refused)
		}
	}
}

// otherParts are some that are not the leaves from from to to - 1.
func otherParts(l [][]byte, from, to int) [][][]byte {
	part := l[from:to]
	all := [][][]byte{nil, {}, part[1:], part[:len(part)-1], append(slices.Clone(part), nil), append([][]byte{nil}, part...)}
	for i := range part {
		if i > 3 && i < len(part)-3 {
			continue
		}
		for _, b := range otherLeaves(part[i]) {
			p := slices.Clone(part)
			p[i] = b
			all = append(all, p)
		}
		if i > 0 {
			p := slices.Clone(part)
			p[i-1], p[i] = p[i], p[i-1]
			all = append(all, p)
		}
	}
	return all
}

// E3: with all bits and unlike leaves nothing else is taken, told without the model.
func TestCheckRangeRefuses(t *testing.T) {
	w := Tree{256}
	for _, n := range []int{1, 2, 3, 4, 5, 7, 8, 9, 13} {
		l := unlike(n)
		root := w.Root(l)
		for from := range n {
			for to := from + 1; to <= n; to++ {
				path, _ := w.Range(l, from, to)
				for _, p := range others(path) {
					if !same(p, path) && w.CheckRange(root, n, from, l[from:to], p) {
						t.Errorf("CheckRange of %d to %d of %d: another path of %d is taken", from, to, n, len(p))
					}
				}
				for k, q := range otherParts(l, from, to) {
					if w.CheckRange(root, n, from, q, path) {
						t.Errorf("CheckRange of %d to %d of %d: another part (%d) is taken", from, to, n, k)
					}
				}
				for _, at := range numbersNear(n) {
					if at != from && w.CheckRange(root, n, at, l[from:to], path) {
						t.Errorf("CheckRange of %d to %d of %d: taken at %d", from, to, n, at)
					}
				}
				if w.CheckRange(turned(root, 255), n, from, l[from:to], path) || w.CheckRange(api.Digest{}, n, from, l[from:to], path) {
					t.Errorf("CheckRange of %d to %d of %d: another root is taken", from, to, n)
				}
			}
		}
	}
}

// E3: a part without a leaf is nowhere, whatever is beside it.
func TestEmptyPart(t *testing.T) {
	for _, keep := range []int{0, 256} {
		w := Tree{keep}
		for _, n := range []int{0, 1, 2, 3, 8} {
			root := w.Root(unlike(n))
			for _, path := range [][]api.Digest{nil, {}, {root}, {root, root}, {w.Root(nil)}} {
				for _, from := range []int{math.MinInt, -1, 0, 1, n, math.MaxInt} {
					if w.CheckRange(root, n, from, nil, path) || w.CheckRange(root, n, from, [][]byte{}, path) {
						t.Errorf("%d bits: an empty part at %d of %d is taken", keep, from, n)
					}
				}
			}
		}
	}
}

// E3: counts that no list could have, with a path that suits them.
func TestCheckRangeOfHugeCounts(t *testing.T) {
	w := Tree{256}
	for _, count := range hugeCounts {
		for _, n := range []int{1, 2, 3, 8, 33} {
			leaves := unlike(n)
			for _, from := range []int{0, 1, 5, count / 3, 1<<62 - 1, 1<<62 - 8, 1 << 62, count - n - 1, count - n} {
				if from > count-n {
					continue
				}
				parts := greatest(uint64(count), uint64(from), uint64(from)+uint64(n))
				sums := map[part]api.Digest{}
				var path []api.Digest
				for k, p := range parts {
					sums[p] = api.Digest{byte(k), 1}
					path = append(path, sums[p])
				}
				for k, b := range leaves {
					sums[part{uint64(from + k), uint64(from+k) + 1}] = wantLeaf(256, b)
				}
				root := sumOf(256, part{0, uint64(count)}, sums)
				if !w.CheckRange(root, count, from, leaves, path) {
					t.Errorf("CheckRange of %d from %d on of %d: refused", n, from, count)
				}
				if w.CheckRange(root, count, from, leaves, append(slices.Clone(path), api.Digest{})) || w.CheckRange(root, count, from, leaves, path[1:]) {
					t.Errorf("CheckRange of %d from %d on of %d: a path of another length is taken", n, from, count)
				}
			}
		}
	}
}

// E3: counts and places that no list could have, and sums of them that go round.
func TestCheckRangeOfNoCounts(t *testing.T) {
	numbers := []int{math.MinInt, math.MinInt + 1, math.MinInt + 2, -1 << 62, -4, -3, -2, -1, 0, 1, 2, math.MaxInt - 3, math.MaxInt - 2, math.MaxInt - 1, math.MaxInt}
	for _, keep := range []int{0, 256} {
		w := Tree{keep}
		for _, count := range numbers {
			for _, from := range numbers {
				for _, n := range []int{0, 1, 2, 3} {
					for digests := range 70 {
						root, path := w.Root(abc()), make([]api.Digest, digests)
						want := wantCheckRange(keep, root, count, from, abc()[:n], path)
						if w.CheckRange(root, count, from, abc()[:n], path) != want {
							t.Errorf("CheckRange of %d from %d on of %d, a path of %d, %d bits: %v", n, from, count, digests, keep, !want)
						}
						if (from < 0 || from > max(count, 0)-n || n == 0) && want {
							t.Fatal("the model takes what is no place")
						}
					}
				}
			}
		}
	}
}

// What follows: how long a path is at most, and that this is reached.
func TestLengths(t *testing.T) {
	for _, n := range counts[1:] {
		l := alike(n, nil)
		longest := 0
		for i := range n {
			p, _ := (Tree{0}).Path(l, i)
			longest = max(longest, len(p))
		}
		if longest != halvings(n) {
			t.Errorf("the longest path of %d leaves: %d, not %d", n, longest, halvings(n))
		}
		for from := range n {
			for to := from + 1; to <= n; to++ {
				if p, _ := (Tree{0}).Range(l, from, to); len(p) > 2*halvings(n) {
					t.Errorf("Range of %d to %d of %d: %d digests", from, to, n, len(p))
				}
			}
		}
	}
}

// E3: a range of one leaf has the digests of its path, and that of all leaves has none.
func TestRangeOfOneAndAll(t *testing.T) {
	for _, n := range counts[1:] {
		l := unlike(n)
		for i := range n {
			r, _ := Range(l, i, i+1)
			p, _ := Path(l, i)
			for _, d := range r {
				if !slices.Contains(p, d) {
					t.Errorf("Range of %d of %d has what its path has not", i, n)
				}
			}
			if len(r) != len(p) {
				t.Errorf("Range of %d of %d: %d digests, its path %d", i, n, len(r), len(p))
			}
		}
		if r, err := Range(l, 0, n); err != api.OK || len(r) != 0 || !CheckRange(Root(l), n, 0, l, nil) {
			t.Errorf("Range of all of %d: %x, %v", n, r, err)
		}
	}
}

// E2: two unlike leaves that few bits do not tell apart are both taken: so a clash can be shown.
func TestFewBitsTakeMore(t *testing.T) {
	w := Tree{4}
	l := abc()
	p, _ := w.Path(l, 1)
	taken := 0
	for c := range 256 {
		if w.Check(w.Root(l), 3, 1, []byte{byte(c)}, p) {
			taken++
		}
	}
	if taken < 2 || taken > 100 {
		t.Errorf("%d of 256 leaves are taken", taken)
	}
}

// E4: by one name it is the tree with 256 bits.
func TestByOneName(t *testing.T) {
	w := Tree{256}
	for _, n := range counts {
		for _, l := range lists(n) {
			root := w.Root(l)
			if Root(l) != root || root != wantRoot(256, l) {
				t.Errorf("Root of %d leaves", n)
			}
			for i := -1; i <= n; i++ {
				p, err := Path(l, i)
				q, other := w.Path(l, i)
				if !same(p, q) || err != other {
					t.Errorf("Path of %d of %d: %x, %v", i, n, p, err)
				}
				if err != api.OK {
					continue
				}
				if Leaf(l[i]) != wantLeaf(256, l[i]) || Node(root, Leaf(l[i])) != wantNode(256, root, wantLeaf(256, l[i])) {
					t.Errorf("Leaf, Node of %d of %d", i, n)
				}
				if !Check(root, n, i, l[i], p) || Check(turned(root, 255), n, i, l[i], p) || Check(root, n, i, []byte("another"), p) {
					t.Errorf("Check of %d of %d", i, n)
				}
				for _, to := range []int{i, i + 1, n, n + 1} {
					p, err := Range(l, i, to)
					q, other := w.Range(l, i, to)
					if !same(p, q) || err != other {
						t.Errorf("Range of %d to %d of %d: %x, %v", i, to, n, p, err)
					}
					if err == api.OK && (!CheckRange(root, n, i, l[i:to], p) || CheckRange(turned(root, 255), n, i, l[i:to], p) || CheckRange(root, n, i, l[i:to], append(p, root))) {
						t.Errorf("CheckRange of %d to %d of %d", i, to, n)
					}
				}
			}
		}
	}
}

// roomy are leaves with spare room behind each, and behind the list, that nobody may write to.
func roomy(n int) [][]byte {
	l := make([][]byte, 0, n+5)
	for i := range n {
		l = append(l, append(make([]byte, 0, 40), fmt.Sprint("leaf ", i)...))
	}
	return l
}

// wholeOf is all bytes of the leaves, their spare room with them.
func wholeOf(l [][]byte) string {
	var b []byte
	for _, x := range l[:cap(l)] {
		b = append(b, fmt.Sprint(len(x), ":", x == nil, ":")...)
		b = append(b, x[:cap(x)]...)
	}
	return string(b)
}

// R1: what is handed in stays as it was, its spare room with it.
func TestNothingIsChanged(t *testing.T) {
	for _, n := range []int{1, 2, 3, 8, 9} {
		l := roomy(n)
		was := wholeOf(l)
		root := Root(l)
		for i := range n {
			Leaf(l[i])
			p, _ := Path(l, i)
			p = append(make([]api.Digest, 0, 20), p...)
			r, _ := Range(l, i, n)
			r = append(make([]api.Digest, 0, 20), r...)
			paths := append(slices.Clone(p[:20]), r[:20]...)
			if !Check(root, n, i, l[i], p) || !CheckRange(root, n, i, l[i:], r) {
				t.Errorf("Check, CheckRange of %d of %d: refused", i, n)
			}
			if !same(paths, append(slices.Clone(p[:20]), r[:20]...)) {
				t.Errorf("Check or CheckRange of %d of %d changed its path", i, n)
			}
		}
		if wholeOf(l) != was {
			t.Errorf("%d leaves were changed", n)
		}
	}
}

// R1: what is answered is the caller's, and nothing is kept of what was handed in.
func TestNothingIsKept(t *testing.T) {
	for n := 1; n <= 9; n++ {
		l := roomy(n)
		p, _ := Path(l, n/2)
		again, _ := Path(l, n/2)
		r, _ := Range(l, n/2, n/2+1)
		andAgain, _ := Range(l, n/2, n/2+1)
		clear(p)
		clear(r)
		for i := range l {
			clear(l[i][:cap(l[i])])
		}
		if !same(again, wantPath(256, roomy(n), n/2)) || !same(andAgain, wantRange(256, roomy(n), n/2, n/2+1)) {
			t.Errorf("paths of %d leaves hang together, or on the leaves", n)
		}
		if d := Root(roomy(n)); d != wantRoot(256, roomy(n)) {
			t.Errorf("the root of %d leaves, asked later: %x", n, d)
		}
	}
}

// R3: trees with unlike bits have nothing to do with each other.
func TestTreesApart(t *testing.T) {
	l := unlike(5)
	few, all := Tree{8}, Tree{256}
	for range 3 {
		if few.Root(l) != wantRoot(8, l) || all.Root(l) != wantRoot(256, l) || Root(l) != wantRoot(256, l) {
			t.Error("a root is another one, asked in turn")
		}
	}
}

// E2, E3: any numbers and bytes, held against the chapter's words.
func FuzzCheck(f *testing.F) {
	f.Add(3, 3, 0, 256, "a", []byte("bc"))
	f.Add(8, 8, 7, 1, "", []byte{})
	f.Add(0, math.MinInt, math.MaxInt, -5, "x", make([]byte, 99))
	f.Fuzz(func(t *testing.T, n, count, i, keep int, leaf string, more []byte) {
		w := Tree{keep}
		l := unlike(int(uint(n) % 40))
		path, err := w.Path(l, i)
		if (err == api.OK) != (i >= 0 && i < len(l)) {
			t.Fatalf("Path of %d of %d: %v", i, len(l), err)
		}
		for k := 0; k+32 <= len(more); k += 32 {
			path = append(path, api.Digest(more[k:k+32]))
		}
		root := w.Root(l)
		if is := w.Check(root, count, i, []byte(leaf), path); is != wantCheck(keep, root, count, i, []byte(leaf), path) {
			t.Fatalf("Check of %d of %d, a path of %d: %v", i, count, len(path), is)
		}
		for _, part := range [][][]byte{{[]byte(leaf)}, l, l[:len(l)/2]} {
			if is := w.CheckRange(root, count, i, part, path); is != wantCheckRange(keep, root, count, i, part, path) {
				t.Fatalf("CheckRange of %d from %d on of %d, a path of %d: %v", len(part), i, count, len(path), is)
			}
		}
	})
}
