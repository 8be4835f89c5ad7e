package move

import (
	"fmt"
	"slices"
	"testing"

	"marlstone/api"
	"marlstone/tree"
)

// S1: the chapter's example.
func TestFlushExample(t *testing.T) {
	want := []api.Table{{Level: 0, Count: 1, Root: digest("d8f38aff651beb30c1f734f7718c2a6bc15e91e366548d81d29b9dfaa492a76a"), First: "a", Last: "a"}}
	got, err := flushes(t, tree.Tree{Bits: 256}, nil, entries("a=1", 1), "the example")
	if err != api.OK || !slices.Equal(got, want) {
		t.Errorf("Flush of nothing and (a, 1): %v, %v", got, err)
	}
}

// S1: five times, one behind the other; what is known of each table is reckoned elsewhere, of all bits and of twelve.
func TestFlushWrittenOut(t *testing.T) {
	for _, x := range []struct {
		keep  int
		roots [5]string
	}{
		{256, [5]string{
			"d8f38aff651beb30c1f734f7718c2a6bc15e91e366548d81d29b9dfaa492a76a",
			"6f7169310497796943cd3e1a445dfa32909fb626d60b058d157e70db5b971115",
			"547fc1c8c964af55f3f787162e6006dc8d411e6c6f776a2b2fce4d7c9a507db9",
			"65bd0ac4d70bb9d3d2aec876eb7d73fc2dae27204c1d20ba2b41bcf41cf1caf2",
			"dc0f1cf7af4b2665967e370de4099e88aca9ff87d7185db663f5b3d5beb1d01d",
		}},
		{12, [5]string{"d8f0", "6f70", "7390", "65b0", "dc00"}},
	} {
		w := tree.Tree{Bits: x.keep}
		known := []api.Table{
			{Level: 0, Count: 1, First: "a", Last: "a"},
			{Level: 0, Count: 1, First: "b", Last: "b"},
			{Level: 0, Count: 2, First: "a", Last: "c"},
			{Level: 0, Count: 1, First: "d", Last: "d"},
			{Level: 0, Count: 1, First: "c", Last: "c"},
		}
		pending := [][]api.Entry{entries("a=1", 1), entries("b-", 2), entries("a=2,c=3", 3), entries("d=4", 5), entries("c-", 6)}
		var l, want []api.Table
		for i := range pending {
			known[i].Root = digest(x.roots[i])
			want = slices.Insert(want, 0, known[i])
			next, err := flushes(t, w, l, pending[i], "one of five")
			if err != api.OK || !slices.Equal(next, want) {
				t.Fatalf("Flush of %v, %d bits: %v, %v, not %v", pending[i], x.keep, next, err, want)
			}
			l = next
		}
	}
}

// S1: onto any list that is right, of any number of bits: the new table stands ahead of all, and the others stay as they are.
func TestFlushOntoAny(t *testing.T) {
	for _, keep := range keeps {
		for _, s := range stores(keep) {
			for _, pending := range [][]api.Entry{entries("a=7", 9000), entries("zz-", 1), entries("\x00=1,b-,~77=,\xff=2", api.MaxSeq-3)} {
				next, err := flushes(t, s.w, s.l, pending, "a store")
				if err != api.OK || len(next) != len(s.l)+1 || !slices.Equal(next[1:], s.l) {
					t.Fatalf("Flush of %v onto %v: %v, %v", pending, s.l, next, err)
				}
				if x := next[0]; x.Level != 0 || x.Count != len(pending) || x.First != pending[0].Key || x.Last != pending[len(pending)-1].Key || x.Root != modelRoot(keep, pending) {
					t.Errorf("Flush of %v: %v", pending, x)
				}
			}
		}
	}
}

// S1: as many pending writes as there may be, and each number below; keys, values and Seqs at their limits.
func TestFlushOfAny(t *testing.T) {
	s := made(256, "0:a=1 1:b=1")
	for n := 1; n <= 64; n++ {
		if _, err := flushes(t, s.w, s.l, row(n), fmt.Sprint(n, " writes")); err != api.OK {
			t.Errorf("Flush of %d writes: %v", n, err)
		}
	}
	for _, pending := range [][]api.Entry{
		{{Key: long(128), Value: long(1024), Seq: 1 << 40}},
		{{Key: "\x00", Seq: 1}, {Key: long(128), Del: true, Seq: 1 << 40}},
		{{Key: "\xff", Value: "\xff", Seq: 1}, {Key: "\xff\x00", Value: "", Seq: 1}},
	} {
		if _, err := flushes(t, s.w, s.l, pending, "limits"); err != api.OK {
			t.Errorf("Flush of %.90v: %v", pending, err)
		}
	}
}

// S1: a list has at most 512 tables, behind a Flush too.
func TestFlushOntoMany(t *testing.T) {
	w := tree.Tree{Bits: 256}
	for _, fresh := range []int{0, 1, 100, 600} {
		for tables, want := range map[int]api.Errno{510: api.OK, 511: api.OK, 512: api.ErrLarge, 513: api.ErrArg, 514: api.ErrArg} {
			l := great(256, min(fresh, tables), tables, 1).l
			next, err := flushes(t, w, l, entries("a=1", 1), fmt.Sprint("onto ", tables))
			if err != want || want == api.OK && len(next) != tables+1 {
				t.Errorf("Flush onto %d tables: %d, %v, not %v", tables, len(next), err, want)
			}
		}
	}
}

// S1: a list that is not right, and pending writes that are not fit, are refused.
func TestFlushRefuses(t *testing.T) {
	w := tree.Tree{Bits: 256}
	for name, l := range wrongLists() {
		notFlushed(t, w, l, entries("a=1", 1), api.ErrArg, "onto a list with "+name)
		notFlushed(t, w, l, nil, api.ErrArg, "of none, onto a list with "+name)
	}
	for name, pending := range wrongRows() {
		for _, s := range stores(256) {
			notFlushed(t, s.w, s.l, pending, api.ErrArg, "of a row: "+name)
		}
	}
}

// S1: of several errors the first: 512 tables do not matter to what may not be.
func TestFlushErrorsInOrder(t *testing.T) {
	l := great(256, 100, 512, 1).l
	w := tree.Tree{Bits: 256}
	for name, pending := range wrongRows() {
		notFlushed(t, w, l, pending, api.ErrArg, "onto 512, of a row: "+name)
	}
	notFlushed(t, w, l, row(64), api.ErrLarge, "onto 512")
	for _, i := range []int{0, 99, 100, 511} {
		wrong := slices.Clone(l)
		wrong[i].Count = 0
		notFlushed(t, w, wrong, row(64), api.ErrArg, "onto 512, of which one is none")
		notFlushed(t, w, wrong, nil, api.ErrArg, "onto 512, of which one is none, of none")
	}
}
