package move

import (
	"fmt"
	"math"
	"math/rand/v2"
	"slices"
	"strings"
	"testing"

	"marlstone/api"
)

// tables are those of a short text: of each the level and the First, and behind # what makes it unlike others.
func tables(s string) []api.Table {
	var l []api.Table
	for _, word := range strings.Fields(s) {
		head, mark, _ := strings.Cut(word, "#")
		level, first, _ := strings.Cut(head, ":")
		x := api.Table{First: first, Last: mark}
		fmt.Sscan(level, &x.Level)
		l = append(l, x)
	}
	return l
}

// told is the short text of tables.
func told(l []api.Table) string {
	var words []string
	for _, x := range l {
		word := fmt.Sprint(x.Level, ":", x.First)
		if x.Last != "" {
			word += "#" + x.Last
		}
		words = append(words, word)
	}
	return strings.Join(words, " ")
}

// S2: written out.
func TestPlaceWrittenOut(t *testing.T) {
	for _, x := range []struct {
		l      string
		inputs []int
		parts  string
		want   string
	}{
		// Nothing to take out, nothing to place.
		{"", nil, "", ""},
		{"", []int{0, 1, -1}, "", ""},
		{"0:a 1:b", nil, "", "0:a 1:b"},
		{"0:a 1:b", []int{}, "", "0:a 1:b"},
		// What is taken out; what is no place does not matter, nor does a place that is told twice, nor their order.
		{"0:a 0:b 1:c 2:d", []int{0}, "", "0:b 1:c 2:d"},
		{"0:a 0:b 1:c 2:d", []int{3}, "", "0:a 0:b 1:c"},
		{"0:a 0:b 1:c 2:d", []int{1, 2}, "", "0:a 2:d"},
		{"0:a 0:b 1:c 2:d", []int{0, 1, 2, 3}, "", ""},
		{"0:a 0:b 1:c 2:d", []int{3, 0}, "", "0:b 1:c"},
		{"0:a 0:b 1:c 2:d", []int{1, 1, 1}, "", "0:a 1:c 2:d"},
		{"0:a 0:b 1:c 2:d", []int{2, 0, 2, 0}, "", "0:b 2:d"},
		{"0:a 0:b 1:c 2:d", []int{4}, "", "0:a 0:b 1:c 2:d"},
		{"0:a 0:b 1:c 2:d", []int{-1, -4, 5, 100, math.MaxInt, math.MinInt}, "", "0:a 0:b 1:c 2:d"},
		{"0:a 0:b 1:c 2:d", []int{-1, 0, 4}, "", "0:b 1:c 2:d"},
		// Tables that are alike are told apart by their places.
		{"0:a 0:a 0:a", []int{1}, "", "0:a 0:a"},
		// A part ahead of the first one of a greater level.
		{"", nil, "1:m", "1:m"},
		{"", nil, "3:m 1:m", "1:m 3:m"},
		{"0:a 2:b 3:c", nil, "1:m", "0:a 1:m 2:b 3:c"},
		{"0:z 0:y 3:a", nil, "2:m", "0:z 0:y 2:m 3:a"},
		{"2:a 3:b", nil, "1:m", "1:m 2:a 3:b"},
		{"0:z 1:z", nil, "2:a", "0:z 1:z 2:a"},
		{"3:a 0:a 3:b", nil, "1:m", "1:m 3:a 0:a 3:b"},
		{"1:a 3:a 0:a 2:b", nil, "2:m", "1:a 2:m 3:a 0:a 2:b"},
		// Or of its level, with a First that is not below its own.
		{"1:b 1:d 2:a", nil, "1:a", "1:a 1:b 1:d 2:a"},
		{"1:b 1:d 2:a", nil, "1:c", "1:b 1:c 1:d 2:a"},
		{"1:b 1:d 2:a", nil, "1:e", "1:b 1:d 1:e 2:a"},
		{"1:b 1:d 2:a", nil, "2:0", "1:b 1:d 2:0 2:a"},
		{"1:b#old 1:d#old", nil, "1:b#new", "1:b#new 1:b#old 1:d#old"},
		{"1:b#old 1:d#old", nil, "1:d#new", "1:b#old 1:d#new 1:d#old"},
		{"1:d 1:b", nil, "1:c", "1:c 1:d 1:b"},
		{"1:a 1:d 1:b", nil, "1:c", "1:a 1:c 1:d 1:b"},
		{"0:z 1:z 1:c", nil, "1:d", "0:z 1:d 1:z 1:c"},
		{"0:a 0:c", nil, "0:b", "0:a 0:b 0:c"},
		{"0:c 0:a", nil, "0:b", "0:b 0:c 0:a"},
		// Keys byte by byte; a beginning of one is less, the empty one the least.
		{"1:a 1:aa 1:b", nil, "1:a0", "1:a 1:a0 1:aa 1:b"},
		{"1:a 1:aa 1:b", nil, "1:aaa", "1:a 1:aa 1:aaa 1:b"},
		{"1:a 1:b", nil, "1:", "1: 1:a 1:b"},
		{"1: 1:b", nil, "1:a", "1: 1:a 1:b"},
		{"1:Z 1:a", nil, "1:\xff", "1:Z 1:a 1:\xff"},
		{"1:\xff", nil, "1:z", "1:z 1:\xff"},
		// Several parts, each where the list then asks for it.
		{"0:a 1:b 1:h 2:a", nil, "1:c 1:d 1:e", "0:a 1:b 1:c 1:d 1:e 1:h 2:a"},
		{"0:a 1:b 1:h 2:a", nil, "1:e 1:d 1:c", "0:a 1:b 1:c 1:d 1:e 1:h 2:a"},
		{"0:a 1:b 1:h 2:a", nil, "1:a 1:i 2:0 2:b", "0:a 1:a 1:b 1:h 1:i 2:0 2:a 2:b"},
		{"1:b", nil, "1:c#1 1:c#2 1:c#3", "1:b 1:c#3 1:c#2 1:c#1"},
		{"1:d 1:b", nil, "1:c 1:c#2", "1:c#2 1:c 1:d 1:b"},
		// Behind what is taken out.
		{"0:a 0:b 1:c 1:g 2:d", []int{0, 1, 2}, "1:a 1:c", "1:a 1:c 1:g 2:d"},
		{"0:a 1:c 1:g 2:a 2:h", []int{1, 3}, "2:a 2:d", "0:a 1:g 2:a 2:d 2:h"},
		{"1:a 2:a 3:a", []int{1}, "2:b 2:c", "1:a 2:b 2:c 3:a"},
		{"2:d 3:a 3:d 3:g", []int{0, 2}, "3:d 3:e", "3:a 3:d 3:e 3:g"},
		{"1:a 1:b 1:c", []int{0, 1, 2}, "2:a", "2:a"},
		{"1:m", []int{0}, "1:m#2", "1:m#2"},
		// Levels that no table has.
		{"-1:a 0:a 5:a", nil, "-2:z 4:z 7:z", "-2:z -1:a 0:a 4:z 5:a 7:z"},
		{"-1:a -1:c", []int{7}, "-1:b", "-1:a -1:b -1:c"},
	} {
		got := places(t, tables(x.l), x.inputs, tables(x.parts))
		if told(got) != x.want {
			t.Errorf("Place of %q, %v, %q: %q, not %q", x.l, x.inputs, x.parts, told(got), x.want)
		}
	}
}

// S2: where a part comes to stand is asked of Level and First alone, and each table is placed as it is.
func TestPlaceAsksLevelAndFirst(t *testing.T) {
	odd := []api.Table{
		{},
		{Level: 1, Count: -5, Root: api.Digest{9}, First: "b", Last: "a"},
		{Level: 1, Count: 64, Root: api.Digest{}, First: "c", Last: ""},
		{Level: math.MaxInt, Count: math.MaxInt, First: long(200), Last: long(300)},
		{Level: math.MinInt, Count: math.MinInt, Root: api.Digest{31: 1}, First: "\x00"},
		{Level: 1, Count: 3, Root: api.Digest{1}, First: "b", Last: "zzz"},
	}
	for i := range odd {
		for j := range odd {
			places(t, odd, []int{i, j}, []api.Table{odd[i], odd[j]})
			places(t, odd[:i], []int{j}, odd[j:])
			places(t, odd[i:], nil, odd[:j])
		}
	}
	want := []api.Table{odd[4], odd[0], odd[5], odd[1], odd[2], odd[3]}
	if got := Place(nil, nil, odd); !slices.Equal(got, want) {
		t.Errorf("Place of %v: %v", odd, got)
	}
}

// lists are all lists of at most n of these tables, each marked by its place.
func lists(n int, of []api.Table, mark string) [][]api.Table {
	all := [][]api.Table{nil}
	for from, size := 0, 1; size <= n; size++ {
		to := len(all)
		for _, l := range all[from:to] {
			for _, x := range of {
				x.Last = fmt.Sprint(mark, len(l))
				all = append(all, append(slices.Clone(l), x))
			}
		}
		from = to
	}
	return all
}

// S2: all short lists, whatever is taken out, with all short lists of parts.
func TestPlaceOfAllShort(t *testing.T) {
	of := tables("0:a 1:a 1:b 1:c 2:b 3:a")
	parts := lists(2, tables("0:b 1:a 1:b 2:a 2:c"), "new")
	for _, l := range lists(3, of, "old") {
		for _, inputs := range [][]int{nil, {0}, {1}, {2, 0}, {1, 1, -1}, {3, 2, 1, 0}} {
			for _, p := range parts {
				places(t, l, inputs, p)
			}
		}
	}
}

// S2: long lists, by chance: with places beside them, parts in any order, levels beside those that there are.
func TestPlaceByChance(t *testing.T) {
	r := rand.New(rand.NewPCG(17, 1))
	draw := func(n, levels int, mark string) []api.Table {
		var l []api.Table
		for i := range r.IntN(n) {
			l = append(l, api.Table{Level: r.IntN(levels) - 1, Count: r.IntN(9), First: fmt.Sprint(r.IntN(30)), Last: fmt.Sprint(mark, i)})
		}
		return l
	}
	for range 3000 {
		l, parts := draw(40, 6, "old"), draw(20, 6, "new")
		if r.IntN(2) == 0 {
			slices.SortStableFunc(l, func(x, y api.Table) int { return strings.Compare(told([]api.Table{x}), told([]api.Table{y})) })
		}
		var inputs []int
		for range r.IntN(20) {
			inputs = append(inputs, r.IntN(60)-10)
		}
		next := places(t, l, inputs, parts)
		if rest := modelPlace(l, inputs, nil); len(next) != len(rest)+len(parts) {
			t.Errorf("Place: %d tables, not %d and %d", len(next), len(rest), len(parts))
		}
	}
}

// S2: parts that rise come to stand in a right list as if it was sorted.
func TestPlaceInOrder(t *testing.T) {
	r := rand.New(rand.NewPCG(17, 2))
	for range 500 {
		var l, parts []api.Table
		for i := range 60 {
			x := api.Table{Level: 1 + i/20, Count: 1, First: fmt.Sprintf("%02d", i%20)}
			if r.IntN(3) == 0 {
				parts = append(parts, x)
			} else {
				l = append(l, x)
			}
		}
		all := slices.Concat(l, parts)
		slices.SortFunc(all, func(x, y api.Table) int { return strings.Compare(told([]api.Table{x}), told([]api.Table{y})) })
		if next := places(t, l, nil, parts); !slices.Equal(next, all) {
			t.Errorf("Place of %v and %v: %v", told(l), told(parts), told(next))
		}
		slices.Reverse(parts)
		if next := places(t, l, nil, parts); !slices.Equal(next, all) {
			t.Errorf("Place of %v and %v: %v", told(l), told(parts), told(next))
		}
	}
}

// S2: long lists end, too.
func TestPlaceOfMany(t *testing.T) {
	l := make([]api.Table, 100000)
	inputs := make([]int, 100000)
	for i := range l {
		l[i].Level, l[i].Count = i/1000, i
		inputs[i] = 2*i - 7
	}
	next := Place(l, inputs, l[5:9])
	const want = 50000 + 4 // the even places, and the parts
	if len(next) != want || next[0].Count != 8 || next[4].Count != 0 || next[5].Count != 2 {
		t.Errorf("Place of many: %d, not %d; %v", len(next), want, next[:6])
	}
}
