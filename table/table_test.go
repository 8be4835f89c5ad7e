package table

import (
	"bytes"
	"encoding/hex"
	"fmt"
	"math"
	"slices"
	"strings"
	"testing"

	"marlstone/api"
	"marlstone/tree"
)

// Roots that were reckoned elsewhere.
const (
	exampleRoot = "7137f5ecad62706641242e78fd5912d1b15b2a19aab8c49866f32cd67bd4f66e"
	threeRoot   = "5ed1535a962c3f92ba41947a655635b039c6618fb05f514ecc743b6c8b5d2880"
)

func long(n int) string { return strings.Repeat("k", n) }

// one is the list of the chapter's example.
func one() []api.Entry { return []api.Entry{{Key: "a", Value: "v", Seq: 1}} }

// many is a list of n entries (fit, if n is 1 to 64), every third one with Del; neighbours' keys have much in common.
func many(n int) []api.Entry {
	var l []api.Entry
	for i := range n {
		e := api.Entry{Key: fmt.Sprintf("key%03d", i), Value: fmt.Sprint("v", i*i), Seq: 1 + i*i*i}
		if i%3 == 2 {
			e.Value, e.Del = "", true
		}
		l = append(l, e)
	}
	return l
}

// short is a list of n entries with few bytes.
func short(n int) []api.Entry {
	var l []api.Entry
	for i := range n {
		l = append(l, api.Entry{Key: string([]byte{byte('A' + i)}), Del: true, Seq: 1})
	}
	return l
}

// growing is a list of which each key is the beginning of the next.
func growing(n int) []api.Entry {
	var l []api.Entry
	for i := range n {
		l = append(l, api.Entry{Key: long(1 + i), Value: "v", Seq: 1 + i})
	}
	return l
}

// greatest is a list of n entries with as many bytes as an entry can have.
func greatest(n int) []api.Entry {
	var l []api.Entry
	for i := range n {
		l = append(l, api.Entry{Key: string([]byte{byte(i)}) + long(127), Value: long(1024), Seq: api.MaxSeq})
	}
	return l
}

// lists are fit lists of many kinds, all unlike.
func lists() [][]api.Entry {
	all := [][]api.Entry{one(), greatest(1), greatest(16), greatest(64)}
	for n := 1; n <= 64; n++ {
		all = append(all, many(n), growing(n), short(n))
	}
	return append(all,
		[]api.Entry{{Key: "a", Value: "v", Seq: 2}},
		[]api.Entry{{Key: "a", Value: "w", Seq: 1}},
		[]api.Entry{{Key: "a", Value: "", Seq: 1}},
		[]api.Entry{{Key: "a", Del: true, Seq: 1}},
		[]api.Entry{{Key: "b", Value: "v", Seq: 1}},
		[]api.Entry{{Key: "\x00", Seq: 1}, {Key: "\x00\x00", Seq: 1}, {Key: "\x00\x01", Seq: 1}, {Key: "\xff", Seq: 1}},
		[]api.Entry{{Key: long(127), Del: true, Seq: api.MaxSeq}, {Key: long(128), Seq: 127}, {Key: "l", Seq: 128}},
		[]api.Entry{{Key: "MARL", Value: "MARL", Seq: 16384}},
		[]api.Entry{{Key: "käse", Value: "世界", Seq: 3}, {Key: "kåse", Value: "\x80", Seq: 2}},
	)
}

// notRight are entries of which each has one fault; the keys of most have their place at the 8th of many.
func notRight() []api.Entry {
	return []api.Entry{
		{},
		{Key: "", Value: "v", Seq: 1},
		{Key: "", Del: true, Seq: 1},
		{Key: "key007" + long(123), Value: "v", Seq: 1},
		{Key: "key007" + long(123), Del: true, Seq: 1},
		{Key: "key007", Value: long(1025), Seq: 1},
		{Key: "key007", Value: "v", Del: true, Seq: 1},
		{Key: "key007", Value: "v", Seq: 0},
		{Key: "key007", Del: true, Seq: 0},
		{Key: "key007", Value: "v", Seq: -1},
		{Key: "key007", Value: "v", Seq: math.MinInt},
		{Key: "key007", Value: "v", Seq: api.MaxSeq + 1},
		{Key: "key007", Del: true, Seq: math.MaxInt},
	}
}

// notFit are lists that have one fault each.
func notFit() [][]api.Entry {
	all := [][]api.Entry{nil, {}, many(65), growing(65), many(66), many(80), many(128), many(1000)}
	for _, e := range notRight() {
		at7 := many(20)
		at7[7] = e
		all = append(all, []api.Entry{e}, at7)
	}
	// The first and the last one, too, are asked.
	for _, at := range []int{0, 15, 16, 63} {
		l := many(64)
		l[at].Seq = 0
		all = append(all, l)
	}
	for at := range 63 {
		turned := many(64)
		turned[at], turned[at+1] = turned[at+1], turned[at]
		twice := many(64)
		twice[at+1].Key = twice[at].Key
		all = append(all, turned, twice)
	}
	back := growing(12)
	slices.Reverse(back)
	same := []api.Entry{{Key: "a", Seq: 1}, {Key: "a", Seq: 1}}
	newer := []api.Entry{{Key: "a", Seq: 2}, {Key: "a", Seq: 1}}
	older := []api.Entry{{Key: "a", Seq: 1}, {Key: "a", Seq: 2}}
	lesser := []api.Entry{{Key: "ab", Seq: 1}, {Key: "a", Seq: 2}}
	bytewise := []api.Entry{{Key: "\x80", Seq: 1}, {Key: "\x7f", Seq: 2}}
	return append(all, back, same, newer, older, lesser, bytewise)
}

// K1: one entry at least, 64 at most.
func TestFitCounts(t *testing.T) {
	for n := range 200 {
		for _, l := range [][]api.Entry{many(n), growing(min(n, 128))} {
			if is := Fit(l); is != (len(l) >= 1 && len(l) <= 64) {
				t.Errorf("Fit of %d entries: %v", len(l), is)
			}
		}
	}
	if Fit(nil) || Fit([]api.Entry{}) || !Fit(one()) || !Fit(many(64)) || Fit(many(65)) {
		t.Error("Fit of none, one, 64 or 65")
	}
}

// K1: each one right, and sorted.
func TestFit(t *testing.T) {
	for _, l := range lists() {
		if !Fit(l) {
			t.Errorf("Fit of %.90v: false", l)
		}
	}
	for _, l := range notFit() {
		if Fit(l) {
			t.Errorf("Fit of %.90v: true", l)
		}
	}
}

// K1: a fault at any place is seen.
func TestFitAsksAll(t *testing.T) {
	for at := range 64 {
		for _, e := range notRight() {
			l := many(64)
			if e.Key == "key007" {
				e.Key = l[at].Key
			}
			l[at] = e
			if Fit(l) {
				t.Errorf("Fit with %.60v at %d: true", e, at)
			}
		}
	}
}

// K1: a list is sorted by its keys alone: Seq goes as it likes.
func TestFitOfAnySeq(t *testing.T) {
	for _, seq := range [][3]int{{1, 2, 3}, {3, 2, 1}, {1, 1, 1}, {api.MaxSeq, 1, api.MaxSeq}} {
		l := []api.Entry{{Key: "a", Seq: seq[0]}, {Key: "b", Seq: seq[1], Del: true}, {Key: "ba", Seq: seq[2], Value: "v"}}
		if !Fit(l) {
			t.Errorf("Fit with Seq %v: false", seq)
		}
	}
}

// K1: the leaves told byte by byte.
func TestLeavesOfWhatIsTold(t *testing.T) {
	l := []api.Entry{{Key: "a", Value: "v", Seq: 1}, {Key: "bc", Del: true, Seq: 300}, {Key: "d", Seq: 127}}
	want := []string{"\x00\x01\x01a\x01v", "\x01\xac\x02\x02bc", "\x00\x7f\x01d\x00"}
	leaves := Leaves(l)
	if len(leaves) != len(want) {
		t.Fatalf("%d leaves", len(leaves))
	}
	for i, b := range leaves {
		if string(b) != want[i] {
			t.Errorf("the leaf at %d: %x, not %x", i, b, want[i])
		}
	}
}

// K1: of each entry, in order, its bytes; of one that is not right these are nothing.
func TestLeaves(t *testing.T) {
	for _, l := range append(lists(), notFit()...) {
		leaves := Leaves(l)
		if len(leaves) != len(l) {
			t.Errorf("%d leaves of %d entries", len(leaves), len(l))
			continue
		}
		for i, e := range l {
			want := ""
			if modelFit([]api.Entry{e}) {
				want = rawLeaf(e)
			}
			if string(leaves[i]) != want {
				t.Errorf("the leaf of %.60v: %.60x, not %.60x", e, leaves[i], want)
			}
		}
	}
}

// K1: what is known of the chapter's list; the root was reckoned elsewhere, over 00 and 00 01 01 61 01 76.
func TestDescribeExample(t *testing.T) {
	root, _ := hex.DecodeString(exampleRoot)
	want := api.Table{Level: 2, Count: 1, Root: api.Digest(root), First: "a", Last: "a"}
	if x, err := Describe(tree.Tree{Bits: 256}, 2, one()); err != api.OK || x != want {
		t.Errorf("Describe: %+v, %v", x, err)
	}
	root, _ = hex.DecodeString(threeRoot)
	want = api.Table{Level: 0, Count: 3, Root: api.Digest(root), First: "a", Last: "d"}
	l := []api.Entry{{Key: "a", Value: "v", Seq: 1}, {Key: "bc", Del: true, Seq: 300}, {Key: "d", Seq: 127}}
	if x, err := Describe(tree.Tree{Bits: 256}, 0, l); err != api.OK || x != want {
		t.Errorf("Describe: %+v, %v", x, err)
	}
}

// K1: levels from 0 to 3 alone.
func TestDescribeLevels(t *testing.T) {
	for _, l := range [][]api.Entry{one(), many(17), many(64)} {
		for _, level := range []int{math.MinInt, -1 << 32, -256, -4, -3, -2, -1, 0, 1, 2, 3, 4, 5, 7, 8, 64, 256, 1 << 32, math.MaxInt} {
			x, err := Describe(tree.Tree{Bits: 256}, level, l)
			if level < 0 || level > 3 {
				if err != api.ErrArg || x != (api.Table{}) {
					t.Errorf("Describe at level %d: %+v, %v", level, x, err)
				}
				continue
			}
			if err != api.OK || x.Level != level {
				t.Errorf("Describe at level %d: %+v, %v", level, x, err)
			}
		}
	}
}

// K1: a list that is not fit is not described, at any level.
func TestDescribeNotFit(t *testing.T) {
	for _, l := range notFit() {
		for level := -1; level <= 4; level++ {
			for _, bits := range []int{0, 256} {
				if x, err := Describe(tree.Tree{Bits: bits}, level, l); err != api.ErrArg || x != (api.Table{}) {
					t.Errorf("Describe at level %d of %.90v: %+v, %v", level, l, x, err)
				}
			}
		}
	}
}

// K1: all that is known of a list, by trees of unlike Bits.
func TestDescribe(t *testing.T) {
	for i, l := range lists() {
		for _, bits := range []int{math.MinInt, -1, 0, 1, 7, 8, 9, 64, 255, 256, 257, math.MaxInt} {
			level := (i + bits&3) & 3
			want := api.Table{Level: level, Count: len(l), Root: modelRoot(bits, l), First: l[0].Key, Last: l[len(l)-1].Key}
			x, err := Describe(tree.Tree{Bits: bits}, level, l)
			if err != api.OK || x != want {
				t.Errorf("Describe %.60v with %d bits: %.200v, %v", l, bits, x, err)
			}
			if root := (tree.Tree{Bits: bits}).Root(Leaves(l)); root != x.Root {
				t.Errorf("the root of %.60v with %d bits: %x", l, bits, root)
			}
		}
	}
}

// What follows: what is known hangs on the entries alone, and each of them counts.
func TestDescribeHangsOnAllEntries(t *testing.T) {
	whole := tree.Tree{Bits: 256}
	known := func(l []api.Entry) api.Table {
		t.Helper()
		x, err := Describe(whole, 1, l)
		if err != api.OK {
			t.Fatalf("Describe: %v", err)
		}
		return x
	}
	was := known(many(64))
	b, _ := Bytes(many(64))
	l, _ := Parse(b)
	if known(l) != was {
		t.Error("of what is read something else is known")
	}
	for at := range 64 {
		seq, value, del := many(64), many(64), many(64)
		seq[at].Seq++
		value[at].Value, value[at].Del = "another", false
		del[at].Value, del[at].Del = "", !del[at].Del
		for _, l := range [][]api.Entry{seq, value, del} {
			if x := known(l); x.Root == was.Root || x.Count != 64 || x.First != was.First || x.Last != was.Last {
				t.Errorf("another entry at %d: %+v", at, x)
			}
		}
	}
}

// R1: what is handed in stays as it was, and each leaf is by itself.
func TestLeavesAreApart(t *testing.T) {
	room := append(many(30), api.Entry{Key: "spare", Seq: 7})
	leaves, other := Leaves(room[:30]), Leaves(room[:30])
	x, _ := Describe(tree.Tree{Bits: 256}, 1, room[:30])
	Fit(room[:30])
	if !slices.Equal(room[:30], many(30)) || room[30] != (api.Entry{Key: "spare", Seq: 7}) {
		t.Error("the list was changed")
	}
	clear(room)
	for i, b := range leaves {
		if string(b) != rawLeaf(many(30)[i]) {
			t.Errorf("the leaf at %d hangs on its list", i)
		}
		// Appended, too: the room behind a leaf is not that of the next one.
		_ = append(b, bytes.Repeat([]byte{0xaa}, 20)...)
		clear(b)
	}
	for i, b := range other {
		if string(b) != rawLeaf(many(30)[i]) {
			t.Errorf("the leaves at %d hang together", i)
		}
	}
	if y, _ := Describe(tree.Tree{Bits: 256}, 1, many(30)); x != y || x.First != "key000" || x.Last != "key029" {
		t.Errorf("what is known hangs on the list: %+v", x)
	}
}

// R1: leaves of one answer share no memory.
func TestNeighbouringLeavesAreApart(t *testing.T) {
	leaves := Leaves(many(30))
	for i := range leaves {
		_ = append(leaves[i], bytes.Repeat([]byte{0xaa}, 20)...)
		clear(leaves[i])
		for k := i + 1; k < len(leaves); k++ {
			if string(leaves[k]) != rawLeaf(many(30)[k]) {
				t.Fatalf("the leaf at %d hangs on that at %d", k, i)
			}
		}
	}
}
