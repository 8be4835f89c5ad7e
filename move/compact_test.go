package move

import (
	"fmt"
	"slices"
	"strings"
	"testing"

	"marlstone/api"
	"marlstone/tree"
)

// S2: the chapter's example.
func TestCompactExample(t *testing.T) {
	w := tree.Tree{Bits: 256}
	l, _ := Flush(w, nil, entries("a=1", 1))
	notCompacted(t, w, l, nil, api.ErrNone, "the example")
	notCompacted(t, w, l, [][]api.Entry{entries("a=1", 1)}, api.ErrNone, "the example, with its row")
}

// S2: five tables become one; what is known of each is reckoned elsewhere, of all bits and of twelve.
func TestCompactWrittenOut(t *testing.T) {
	rows := [][]api.Entry{entries("c-", 6), entries("d=4", 5), entries("a=2,c=3", 3), entries("b-", 2), entries("a=1", 1)}
	merged := []api.Entry{{Key: "a", Value: "2", Seq: 3}, {Key: "b", Del: true, Seq: 2}, {Key: "c", Del: true, Seq: 6}, {Key: "d", Value: "4", Seq: 5}}
	for _, x := range []struct {
		keep  int
		roots [5]string
		root  string
	}{
		{256, [5]string{
			"dc0f1cf7af4b2665967e370de4099e88aca9ff87d7185db663f5b3d5beb1d01d",
			"65bd0ac4d70bb9d3d2aec876eb7d73fc2dae27204c1d20ba2b41bcf41cf1caf2",
			"547fc1c8c964af55f3f787162e6006dc8d411e6c6f776a2b2fce4d7c9a507db9",
			"6f7169310497796943cd3e1a445dfa32909fb626d60b058d157e70db5b971115",
			"d8f38aff651beb30c1f734f7718c2a6bc15e91e366548d81d29b9dfaa492a76a",
		}, "f78717b92cbe917bd08b36dbd27926915c922981152d01ee59ab3dfebeb22c13"},
		{12, [5]string{"dc00", "65b0", "7390", "6f70", "d8f0"}, "4f40"},
	} {
		var l []api.Table
		for i, ends := range [][2]string{{"c", "c"}, {"d", "d"}, {"a", "c"}, {"b", "b"}, {"a", "a"}} {
			l = append(l, api.Table{Level: 0, Count: len(rows[i]), Root: digest(x.roots[i]), First: ends[0], Last: ends[1]})
		}
		want := []api.Table{{Level: 1, Count: 4, Root: digest(x.root), First: "a", Last: "d"}}
		next, parts, err := compacts(t, tree.Tree{Bits: x.keep}, l, rows, "five tables")
		if err != api.OK || !slices.Equal(next, want) || !sameRows(parts, [][]api.Entry{merged}) {
			t.Errorf("Compact, %d bits: %v, %v, %v", x.keep, next, parts, err)
		}
	}
}

// S2: to the bottom what is taken away goes; what is known of the table that comes is reckoned elsewhere.
func TestCompactToTheBottomWrittenOut(t *testing.T) {
	s := store{w: tree.Tree{Bits: 256}}
	s = s.with(2, []api.Entry{{Key: "a", Value: "2", Seq: 3}, {Key: "c", Del: true, Seq: 6}})
	for i := range 32 {
		s = s.with(2, []api.Entry{{Key: fmt.Sprintf("k%02d", i), Seq: 9}})
	}
	s = s.with(3, []api.Entry{{Key: "b", Value: "9", Seq: 1}, {Key: "c", Value: "3", Seq: 4}, {Key: "d", Value: "4", Seq: 5}})
	s = s.with(3, []api.Entry{{Key: "e", Del: true, Seq: 2}})
	root := digest("8496fad5560cb98d10f9d6ee2886e161b7f54d012978d0b1723e22fdf09d5ca2")
	want := slices.Concat(s.l[1:33], []api.Table{{Level: 3, Count: 3, Root: root, First: "a", Last: "d"}}, s.l[34:])
	next, parts, err := compacts(t, s.w, s.l, [][]api.Entry{s.rows[0], s.rows[33]}, "to the bottom")
	if err != api.OK || !slices.Equal(next, want) {
		t.Errorf("Compact: %v, %v, not %v", next, err, want)
	}
	if !sameRows(parts, [][]api.Entry{{{Key: "a", Value: "2", Seq: 3}, {Key: "b", Value: "9", Seq: 1}, {Key: "d", Value: "4", Seq: 5}}}) {
		t.Errorf("Compact: %v", parts)
	}
}

// short is the short text of rows: entries by commas, rows by bars.
func short(rows [][]api.Entry) string {
	var all []string
	for _, row := range rows {
		var words []string
		for _, e := range row {
			if e.Del {
				words = append(words, e.Key+"-")
			} else {
				words = append(words, e.Key+"="+e.Value)
			}
		}
		all = append(all, strings.Join(words, ","))
	}
	return strings.Join(all, " | ")
}

// S2: merges to each level: which entries stay, what is taken away, and where the parts come to stand.
func TestCompactToEachLevel(t *testing.T) {
	for _, x := range []struct {
		to           int
		upper, lower string
		parts        string // without what stands above ~
		level        string // the Firsts of the level, behind it, without those
	}{
		{2, "b=1", "", "b=1", "b"},
		{3, "b=1", "", "b=1", "b"},
		{2, "b-", "", "b-", "b"},
		{3, "b-", "", "", ""},
		{2, "b=1", "a=1 b=0 c=1", "b=1", "a b c"},
		{3, "b=1", "a=1 b=0 c=1", "b=1", "a b c"},
		{2, "b-", "a=1 b=0 c=1", "b-", "a b c"},
		{3, "b-", "a=1 b=0 c=1", "", "a c"},
		{2, "b=1", "b-", "b=1", "b"},
		{3, "b=1", "b-", "b=1", "b"},
		{2, "b-", "a=1,c=1", "a=1,b-,c=1", "a"},
		{3, "b-", "a=1,c=1", "a=1,c=1", "a"},
		{2, "b-,d-", "a-,b- c- d=1,e- f-", "a-,b-,c-,d-,e-", "a f"},
		{3, "b-,d-", "a-,b- c- d=1,e- f-", "", "f"},
		{2, "b=2,d=2", "a=1 b=1,c=1 c1=1 d=1,f=1 g=1", "b=2,c=1,c1=1,d=2,f=1", "a b g"},
		{3, "b=2,d=2", "a=1 b=1,c=1 c1=1 d=1,f=1 g=1", "b=2,c=1,c1=1,d=2,f=1", "a b g"},
		{2, "b=2,d=2", "a=1 c=1 e=1", "b=2,c=1,d=2", "a b e"},
		{3, "b=2,d=2", "a=1 c- e=1", "b=2,d=2", "a b e"},
		// The level 0 goes whole, the newest ahead, with all that stands below.
		{1, "b=5,d=5 a-,b=4 c=3 b=2,d- a=1", "A=1 a=0,b=0 c1=1 e=1", "a-,b=5,c=3,c1=1,d=5", "A a e"},
		{1, "b- b=4 b=3 b- b=1", "a=1 b=0 c=1", "b-", "a b c"},
		{1, "b- b- b- b- b-", "a=1,c=1", "a=1,b-,c=1", "a"},
		{1, "a=5 b=4 c=3 d=2 e=1", "", "a=5,b=4,c=3,d=2,e=1", "a"},
		{1, "e=5 d=4 c=3 b=2 a=1", "", "a=1,b=2,c=3,d=4,e=5", "a"},
	} {
		s := ready(256, x.to, x.upper, x.lower)
		next, parts, err := compacts(t, s.w, s.l, s.asked(), x.upper)
		var firsts []string
		for _, table := range next {
			if table.Level == x.to {
				firsts = append(firsts, table.First)
			}
		}
		if err != api.OK || short(parts) != x.parts || strings.Join(firsts, " ") != x.level {
			t.Errorf("Compact to %d of %q and %q: %q, %q, %v, not %q, %q", x.to, x.upper, x.lower, short(parts), firsts, err, x.parts, x.level)
		}
	}
}

// S2: any store: the list is the model's, and errors are told where there is nothing to merge; of any number of bits.
func TestCompactOfAny(t *testing.T) {
	for _, keep := range keeps {
		for _, text := range due {
			s := made(keep, text)
			if _, _, err := compacts(t, s.w, s.l, s.asked(), text); err != api.OK {
				t.Errorf("Compact of %.90s: %v", text, err)
			}
		}
		for _, text := range quiet {
			s := made(keep, text)
			for _, rows := range [][][]api.Entry{nil, {}, {nil}, s.rows, s.rows[:len(s.rows)/2]} {
				notCompacted(t, s.w, s.l, rows, api.ErrNone, text)
			}
		}
	}
}

// share is n entries from a key on, two apart: every dels-th one with Del; none, if dels is 0.
func share(n, from, dels int) []api.Entry {
	var row []api.Entry
	for i := range n {
		e := api.Entry{Key: fmt.Sprintf("k%05d", from+2*i), Value: "v", Seq: from + i + 1}
		if dels > 0 && i%dels == 0 {
			e.Value, e.Del = "", true
		}
		row = append(row, e)
	}
	return row
}

// lengths are how long lists are.
func lengths(rows [][]api.Entry) []int {
	var all []int
	for _, row := range rows {
		all = append(all, len(row))
	}
	return all
}

// S2: a merge that tells several parts, one and none, to each level: as few as can be, as long as one another.
func TestCompactParts(t *testing.T) {
	for _, x := range []struct {
		counts [5]int // of the five tables of the level 0: no key stands in two of them
		want   []int
	}{
		{[5]int{1, 1, 1, 1, 1}, []int{5}},
		{[5]int{12, 13, 13, 13, 12}, []int{63}},
		{[5]int{12, 13, 13, 13, 13}, []int{64}},
		{[5]int{13, 13, 13, 13, 13}, []int{33, 32}},
		{[5]int{64, 1, 1, 1, 1}, []int{34, 34}},
		{[5]int{64, 61, 1, 1, 1}, []int{64, 64}},
		{[5]int{64, 62, 1, 1, 1}, []int{43, 43, 43}},
		{[5]int{64, 63, 1, 1, 1}, []int{44, 43, 43}},
		{[5]int{64, 64, 1, 1, 1}, []int{44, 44, 43}},
		{[5]int{64, 64, 64, 64, 63}, []int{64, 64, 64, 64, 63}},
		{[5]int{64, 64, 64, 64, 64}, []int{64, 64, 64, 64, 64}},
	} {
		s := store{w: tree.Tree{Bits: 256}}
		for i, n := range x.counts {
			s = s.with(0, share(n, 1000*i+i%2, 0))
		}
		next, parts, err := compacts(t, s.w, s.l, s.rows, "parts")
		if err != api.OK || !slices.Equal(lengths(parts), x.want) || len(next) != len(x.want) {
			t.Errorf("Compact of %v: %v, %d tables, %v", x.counts, lengths(parts), len(next), err)
		}
		for k, part := range parts {
			if next[k] != modelTable(256, 1, part) {
				t.Errorf("Compact of %v: %v is not the table of %v", x.counts, next[k], part)
			}
		}
	}
	for _, x := range []struct {
		to, upper, lower, dels, same int // how long the newest input and what stands below it are; which entries of the former are with Del; from which of its places on the latter begins
		want                         []int
	}{
		{2, 64, 64, 1, 0, []int{64}},
		{3, 64, 64, 1, 0, nil},
		{2, 64, 64, 1, 1, []int{33, 32}},
		{3, 64, 64, 1, 1, []int{1}},
		{2, 64, 64, 2, 0, []int{64}},
		{3, 64, 64, 2, 0, []int{32}},
		{2, 64, 64, 2, 63, []int{64, 63}},
		{3, 64, 64, 2, 63, []int{48, 47}},
		{3, 64, 32, 2, 32, []int{32}},
		{2, 64, 33, 2, 32, []int{33, 32}},
		{3, 64, 33, 2, 32, []int{33}},
		{2, 1, 64, 1, 0, []int{64}},
		{3, 1, 64, 1, 0, []int{63}},
		{3, 1, 1, 1, 0, nil},
		{2, 1, 1, 1, 0, []int{1}},
	} {
		s := store{w: tree.Tree{Bits: 256}}.with(x.to-1, share(x.upper, 0, x.dels))
		for i := range pastCap(x.to - 1) {
			s = s.with(x.to-1, []api.Entry{{Key: fmt.Sprintf("l%02d", i), Seq: 1}})
		}
		s = s.with(x.to, share(x.lower, 2*x.same, 0))
		rows := s.asked()
		next, parts, err := compacts(t, s.w, s.l, rows, "two rows")
		if err != api.OK || len(rows) != 2 || !slices.Equal(lengths(parts), x.want) || len(next) != len(s.l)-2+len(x.want) {
			t.Errorf("Compact of %+v: %d rows, %v, %d tables, %v", x, len(rows), lengths(parts), len(next), err)
		}
	}
}

// pastCap is how many tables beside the first one make a level go on.
func pastCap(level int) int { return []int{4, 8, 32}[level] }

// S2: great stores, to each level, with tables of 64 entries; 512 tables are 512 at most behind it.
func TestCompactOfGreatStores(t *testing.T) {
	for _, s := range []store{great(256, 5, 20, 64), great(256, 40, 100, 64), great(256, 4, 40, 64), great(256, 0, 30, 64), great(256, 4, 512, 3), great(256, 100, 512, 64), great(256, 512, 512, 1), great(256, 500, 512, 64)} {
		next, _, err := compacts(t, s.w, s.l, s.asked(), "a great store")
		if err != api.OK || len(next) > len(s.l) {
			t.Errorf("Compact of %d tables: %d, %v", len(s.l), len(next), err)
		}
	}
}

// S2: a list that is not right is refused ahead of all else.
func TestCompactOfWrongLists(t *testing.T) {
	w := tree.Tree{Bits: 256}
	five := made(256, filled(0, 5, "b")+"1:a=1,b=1 1:c=1,d=1 2:a=1,b=1 3:a=1 3:b=1,c=1")
	for name, l := range wrongLists() {
		for _, rows := range [][][]api.Entry{nil, five.asked(), five.rows} {
			notCompacted(t, w, l, rows, api.ErrArg, name)
		}
	}
	// Also where there is nothing to merge.
	notCompacted(t, w, []api.Table{{Level: 4, Count: 1, First: "a", Last: "a"}}, nil, api.ErrArg, "a level above 3")
}

// S2: too few rows, too many, and rows in another order, or twice.
func TestCompactOfOtherRows(t *testing.T) {
	for _, keep := range []int{0, 2, 256} {
		for _, text := range due {
			s := made(keep, text)
			rows := s.asked()
			for n := range rows {
				notCompacted(t, s.w, s.l, rows[:n], api.ErrProof, "too few rows")
				notCompacted(t, s.w, s.l, slices.Delete(slices.Clone(rows), n, n+1), api.ErrProof, "too few rows")
				notCompacted(t, s.w, s.l, slices.Insert(slices.Clone(rows), n, rows[n]), api.ErrProof, "too many rows")
				empty := slices.Clone(rows)
				empty[n] = nil
				notCompacted(t, s.w, s.l, empty, api.ErrProof, "an empty row")
				for k := range n {
					swapped := slices.Clone(rows)
					swapped[n], swapped[k] = rows[k], rows[n]
					_, _, err := compacts(t, s.w, s.l, swapped, "rows in another order")
					// What is known of both may be alike, where few bits are kept.
					if keep == 256 && err != api.ErrProof {
						t.Errorf("Compact of %.90s with %d for %d: %v", text, n, k, err)
					}
				}
			}
			notCompacted(t, s.w, s.l, append(slices.Clone(rows), nil), api.ErrProof, "an empty row more")
			notCompacted(t, s.w, s.l, append(slices.Clone(rows), rows...), api.ErrProof, "all rows twice")
			if len(rows) < len(s.rows) {
				notCompacted(t, s.w, s.l, s.rows, api.ErrProof, "all rows of the store")
			}
			reversed := slices.Clone(rows)
			slices.Reverse(reversed)
			compacts(t, s.w, s.l, reversed, "rows in falling order")
		}
	}
}

// S2: each row in turn is that of another table of the store, be it of the same level or of another.
func TestCompactWithAnothersRow(t *testing.T) {
	for _, text := range due {
		s := made(256, text)
		places, _, _ := modelInputs(s.l)
		rows := s.asked()
		for k, i := range places {
			for j, row := range s.rows {
				if i == j {
					continue
				}
				other := slices.Clone(rows)
				other[k] = row
				notCompacted(t, s.w, s.l, other, api.ErrProof, fmt.Sprint(j, " in the place of ", i))
			}
		}
	}
}

// S2: a table is known by its level, too, and its root does not hang on that: the same row at two levels is each one's.
func TestCompactOfOneRowTwice(t *testing.T) {
	row := entries("a=1,c-", 7)
	for _, to := range []int{1, 2, 3} {
		s := store{w: tree.Tree{Bits: 256}}
		for range []int{0, 5, 1, 1}[to] {
			s = s.with(to-1, row)
		}
		if to > 1 {
			for i := range pastCap(to - 1) {
				s = s.with(to-1, []api.Entry{{Key: fmt.Sprintf("l%02d", i), Seq: 1}})
			}
		}
		s = s.with(to, row)
		_, parts, err := compacts(t, s.w, s.l, s.asked(), "one row twice")
		want := [][]api.Entry{row}
		if to == 3 {
			want = [][]api.Entry{row[:1]}
		}
		if err != api.OK || !sameRows(parts, want) {
			t.Errorf("Compact to %d of one row: %v, %v", to, parts, err)
		}
	}
}

// changes are rows that are like row, but for one thing.
func changes(row []api.Entry) map[string][]api.Entry {
	all := map[string][]api.Entry{
		"an entry less, first": row[1:],
		"an entry less, last":  row[:len(row)-1],
		"an entry more, first": slices.Insert(slices.Clone(row), 0, api.Entry{Key: "\x00", Seq: 1}),
		"an entry more, last":  append(slices.Clone(row), api.Entry{Key: "\xff", Seq: 1}),
		"all entries twice":    append(slices.Clone(row), row...),
	}
	for i, e := range row {
		turned := func(name string, turn func(e *api.Entry)) {
			c := slices.Clone(row)
			turn(&c[i])
			all[fmt.Sprint(name, " at ", i)] = c
		}
		turned("another value", func(e *api.Entry) { e.Value, e.Del = e.Value+"x", false })
		turned("another Seq", func(e *api.Entry) { e.Seq++ })
		turned("no Seq", func(e *api.Entry) { e.Seq = 0 })
		turned("another key", func(e *api.Entry) { e.Key += "\x00" })
		turned("no key", func(e *api.Entry) { e.Key = "" })
		turned("a long value", func(e *api.Entry) { e.Value = long(1025) })
		turned("no entry", func(e *api.Entry) { *e = api.Entry{} })
		if e.Del {
			turned("no Del", func(e *api.Entry) { e.Del = false })
			turned("Del with a value", func(e *api.Entry) { e.Value = "v" })
		} else {
			turned("a Del", func(e *api.Entry) { e.Value, e.Del = "", true })
		}
		all[fmt.Sprint("an entry twice at ", i)] = slices.Insert(slices.Clone(row), i, e)
		if i > 0 {
			c := slices.Clone(row)
			c[i-1], c[i] = c[i], c[i-1]
			all[fmt.Sprint("two in another order at ", i)] = c
			all[fmt.Sprint("an entry less at ", i)] = slices.Delete(slices.Clone(row), i, i+1)
		}
	}
	return all
}

// S2: a row that was changed, whatever row it is, and wherever.
func TestCompactWithAChangedRow(t *testing.T) {
	for _, text := range due {
		s := made(256, text)
		rows := s.asked()
		for k := range rows {
			for name, row := range changes(rows[k]) {
				other := slices.Clone(rows)
				other[k] = row
				notCompacted(t, s.w, s.l, other, api.ErrProof, fmt.Sprint(name, ", row ", k))
			}
		}
	}
	// In long rows, too.
	s := great(256, 5, 6, 64)
	for k := range s.rows[:6] {
		for _, i := range []int{0, 1, 31, 32, 62, 63} {
			other := clone(s.asked())
			other[min(k, len(other)-1)][i].Seq++
			notCompacted(t, s.w, s.l, other, api.ErrProof, "another Seq in a long row")
		}
	}
}

// S2: what is known of a table is all asked: its count, its root, its first and its last key.
func TestCompactOfChangedTables(t *testing.T) {
	for _, text := range due {
		s := made(256, text)
		places, _, _ := modelInputs(s.l)
		rows := s.asked()
		for _, i := range places {
			for bit := range 256 {
				l := slices.Clone(s.l)
				l[i].Root[bit/8] ^= 0x80 >> (bit % 8)
				notCompacted(t, s.w, l, rows, api.ErrProof, fmt.Sprint("another root at ", i))
				if len(s.l) > 20 {
					break
				}
			}
			for name, turn := range map[string]func(x *api.Table){
				"count": func(x *api.Table) { x.Count++ },
				"first": func(x *api.Table) { x.First += "\x00" },
				"last":  func(x *api.Table) { x.Last += "\x00" },
				"both":  func(x *api.Table) { x.First += "\x00"; x.Last += "\x00" },
			} {
				l := slices.Clone(s.l)
				turn(&l[i])
				next, _, err := compacts(t, s.w, l, rows, "another "+name)
				if err == api.OK || len(next) > 0 {
					t.Errorf("Compact of %.90s with another %s at %d: %v", text, name, i, err)
				}
			}
		}
	}
}

// S2: what is known of other tables than the inputs is not asked.
func TestCompactAsksInputsAlone(t *testing.T) {
	for _, text := range due {
		s := made(256, text)
		places, _, _ := modelInputs(s.l)
		rows := s.asked()
		for i := range s.l {
			if !slices.Contains(places, i) {
				s.l[i].Root = api.Digest{7}
			}
		}
		if _, _, err := compacts(t, s.w, s.l, rows, "other roots beside"); err != api.OK {
			t.Errorf("Compact of %.90s: %v", text, err)
		}
	}
}

// S2: rows of which no table may be made are refused, though their root, their ends and their count were those of a table.
func TestCompactOfUnfitRows(t *testing.T) {
	wrong := wrongRows()
	for name, row := range map[string][]api.Entry{
		"falling within":  entries("a=1,c=1,b=1,d=1", 1),
		"one key twice":   entries("a=1,b=1,b=1,d=1", 1),
		"no Seq":          {{Key: "a", Seq: 0}},
		"Del with value":  wrong["Del with a value, among others"],
		"a long value":    wrong["a long value, among others"],
		"a great Seq":     wrong["a great Seq, among others"],
		"a long key":      {{Key: "a", Seq: 1}, {Key: "b" + long(128), Seq: 1}, {Key: "c", Seq: 1}},
		"an empty entry":  {{Key: "a", Seq: 1}, {}, {Key: "c", Seq: 1}},
		"no Seq, one of":  {{Key: "a", Seq: 1}, {Key: "b"}, {Key: "c", Seq: 1}},
		"Seq below 0":     {{Key: "a", Seq: -1}},
		"all of one kind": {{Key: "a", Seq: 1}, {Key: "c", Seq: 1}, {Key: "b", Seq: 1}, {Key: "e", Seq: 1}},
	} {
		for _, keep := range []int{0, 256} {
			for at := range 5 {
				s := store{w: tree.Tree{Bits: keep}}
				for i := range 5 {
					if i == at {
						s = s.with(0, row)
					} else {
						s = s.with(0, entries("a=1", i+1))
					}
				}
				if !modelRight(s.l) {
					t.Fatalf("%s: %v is not right", name, s.l)
				}
				notCompacted(t, s.w, s.l, s.rows, api.ErrProof, "a row that is not fit: "+name)
			}
		}
	}
}

// S2: of several errors the first.
func TestCompactErrorsInOrder(t *testing.T) {
	s := made(256, filled(0, 5, "a"))
	wrong := slices.Clone(s.l)
	wrong[4].Count = 0
	notCompacted(t, s.w, wrong, s.rows, api.ErrArg, "not right")
	notCompacted(t, s.w, wrong, nil, api.ErrArg, "not right, no rows")
	notCompacted(t, s.w, wrong[4:], nil, api.ErrArg, "not right, nothing to merge")
	notCompacted(t, s.w, wrong[4:], s.rows, api.ErrArg, "not right, nothing to merge, rows")
	notCompacted(t, s.w, s.l[:4], s.rows, api.ErrNone, "nothing to merge, too many rows")
	notCompacted(t, s.w, s.l[:4], nil, api.ErrNone, "nothing to merge, no rows")
	notCompacted(t, s.w, nil, nil, api.ErrNone, "no tables")
	notCompacted(t, s.w, s.l, nil, api.ErrProof, "no rows")
}
