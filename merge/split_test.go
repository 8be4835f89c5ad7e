package merge

import (
	"fmt"
	"slices"
	"testing"

	"marlstone/api"
)

// lengths are those of the parts.
func lengths(parts [][]api.Entry) []int {
	var all []int
	for _, p := range parts {
		all = append(all, len(p))
	}
	return all
}

// heldSplit holds Split of l against the chapter's words: how many parts, how long each, and that they are all of l.
func heldSplit(t *testing.T, l []api.Entry) {
	t.Helper()
	ahead := slices.Clone(l)
	parts := Split(l)
	if !slices.Equal(l, ahead) {
		t.Fatalf("%d entries: they are others now", len(l))
	}
	if !slices.Equal(slices.Concat(parts...), l) {
		t.Fatalf("%d entries: the parts are not all of them", len(l))
	}
	if got, want := lengths(parts), modelLengths(len(l)); !slices.Equal(got, want) {
		t.Fatalf("%d entries: parts of %.200s, not %.200s", len(l), fmt.Sprint(got), fmt.Sprint(want))
	}
}

// M2: the chapter's examples, and the lengths around one, two and more lists.
func TestSplit(t *testing.T) {
	for n, want := range map[int][]int{
		0:   nil,
		1:   {1},
		2:   {2},
		32:  {32},
		63:  {63},
		64:  {64},
		65:  {33, 32},
		66:  {33, 33},
		67:  {34, 33},
		127: {64, 63},
		128: {64, 64},
		129: {43, 43, 43},
		130: {44, 43, 43},
		131: {44, 44, 43},
		132: {44, 44, 44},
		191: {64, 64, 63},
		192: {64, 64, 64},
		193: {49, 48, 48, 48},
		256: {64, 64, 64, 64},
		257: {52, 52, 51, 51, 51},
		321: {54, 54, 54, 53, 53, 53},
	} {
		parts := Split(numbered(n))
		if !slices.Equal(lengths(parts), want) {
			t.Errorf("%d: %v, not %v", n, lengths(parts), want)
		}
		heldSplit(t, numbered(n))
	}
	for _, l := range [][]api.Entry{nil, {}} {
		if parts := Split(l); len(parts) != 0 {
			t.Errorf("%d parts of nothing", len(parts))
		}
	}
}

// M2: each length up to some thousands, and some much greater ones.
func TestSplitOfAllLengths(t *testing.T) {
	l := numbered(1000000)
	for n := range 4200 {
		heldSplit(t, l[:n])
	}
	for _, n := range []int{32767, 32768, 32769, 65536, 99999, 999936, 999937, 1000000} {
		heldSplit(t, l[n-n/2:][:n/2])
		heldSplit(t, l[:n])
	}
}

// M2: as few lists as there can be, none empty or too long, the first ones with at most one more: told without the model.
func TestSplitIsEven(t *testing.T) {
	for n := 1; n < 3000; n++ {
		all := lengths(Split(numbered(n)))
		if len(all)*64 < n || (len(all)-1)*64 >= n {
			t.Errorf("%d: %d parts", n, len(all))
		}
		first, last := all[0], all[len(all)-1]
		if first > 64 || last < 1 || first-last > 1 || !slices.IsSortedFunc(all, func(a, b int) int { return b - a }) {
			t.Errorf("%d: %v", n, all)
		}
	}
}

// M2: entries are split as they stand: in any order, with like keys, with Del, not right.
func TestSplitOfAnyEntries(t *testing.T) {
	for _, l := range [][]api.Entry{wrong(), list("c b a"), list("a a:1 a a:1"), make([]api.Entry, 65)} {
		for range 6 {
			heldSplit(t, l)
			l = append(l, l...)
		}
	}
	down := numbered(200)
	slices.Reverse(down)
	heldSplit(t, down)
}

// M1, M2: what is split of a merged list is merged to it again, in whatever order the parts stand.
func TestSplitAndMerge(t *testing.T) {
	each(true, 20, func(all [][]api.Entry, _ func(n int) int) {
		l := Merge(all, false)
		parts := Split(l)
		tells(t, parts, false, l)
		slices.Reverse(parts)
		tells(t, parts, false, l)
	})
}

// R1: parts share nothing with l, and nothing with each other, also where they are lengthened.
func TestSplitSharesNothing(t *testing.T) {
	for _, n := range []int{1, 2, 63, 64, 65, 128, 129, 1000} {
		l := numbered(n)
		parts := Split(l)
		for i := range l {
			l[i] = e("other:")
		}
		if !slices.Equal(slices.Concat(parts...), numbered(n)) {
			t.Errorf("%d: the parts are others behind writing over l", n)
		}
		l = numbered(n)
		parts = Split(l)
		for i := range parts {
			want := copied(parts[i+1:])
			room := parts[i][:cap(parts[i])]
			for j := range room {
				room[j] = e("other:")
			}
			_ = append(parts[i], e("more:"))
			if toldAll(parts[i+1:]) != toldAll(want) {
				t.Fatalf("%d: writing over part %d changes those behind", n, i)
			}
		}
		if !slices.Equal(l, numbered(n)) {
			t.Errorf("%d: l is another one behind writing over the parts", n)
		}
	}
}

// R1: what stands behind l, in the same memory, stays as it was.
func TestSplitLeavesTheRoom(t *testing.T) {
	room := numbered(300)
	for n := range 201 {
		Split(room[50 : 50+n])
		if !slices.Equal(room, numbered(300)) {
			t.Fatalf("%d: other entries around it", n)
		}
	}
}
