package move

import (
	"encoding/hex"
	"fmt"
	"math"
	"slices"
	"strings"
	"testing"

	"marlstone/api"
	"marlstone/tree"
)

// keeps are numbers of bits: those that there are, and some below and above.
var keeps = []int{math.MinInt, -1, 0, 1, 2, 8, 100, 255, 256, 257, 1000, math.MaxInt}

func digest(s string) api.Digest {
	b, _ := hex.DecodeString(s + strings.Repeat("00", 32-len(s)/2))
	return api.Digest(b)
}

func long(n int) string { return strings.Repeat("k", n) }

// store is the tables of a store, and the entries of each.
type store struct {
	w    tree.Tree
	l    []api.Table
	rows [][]api.Entry
}

// with is a store that has one table more, behind all others.
func (s store) with(level int, row []api.Entry) store {
	s.l = append(slices.Clone(s.l), modelTable(s.w.Bits, level, row))
	s.rows = append(slices.Clone(s.rows), row)
	return s
}

// entries are those of a short text, divided by commas: key=value, or key- with Del; Seq goes on by one from seq on.
func entries(s string, seq int) []api.Entry {
	var row []api.Entry
	for k, text := range strings.Split(s, ",") {
		key, value, is := strings.Cut(text, "=")
		e := api.Entry{Key: key, Value: value, Seq: seq + k}
		if !is {
			e.Key, e.Del = strings.TrimSuffix(key, "-"), true
		}
		row = append(row, e)
	}
	return row
}

// made is a store out of a short text: of each table the level, and its entries; the newer a table is, the greater are its Seqs.
func made(keep int, s string) store {
	made := store{w: tree.Tree{Bits: keep}}
	words := strings.Fields(s)
	for i, word := range words {
		level, rest, _ := strings.Cut(word, ":")
		made = made.with(int(level[0]-'0'), entries(rest, 100*(len(words)-i)))
	}
	return made
}

// filled is n tables of a level with one key each, for made: the keys rise, and begin with this text.
func filled(level, n int, key string) string {
	s := ""
	for i := range n {
		s += fmt.Sprintf(" %d:%s%02d=%d ", level, key, i, i)
	}
	return s
}

// ready is a store whose next merge goes to a level: upper is its newest input, lower is what stands on that level; both may be several tables, without their levels. What else there must be stands at keys above all of theirs.
func ready(keep, to int, upper, lower string) store {
	s := ""
	for _, word := range strings.Fields(upper) {
		s += fmt.Sprintf(" %d:%s", to-1, word)
	}
	n := []int{0, 5, 9, 33}[to] - len(strings.Fields(upper))
	s += filled(to-1, n, "~")
	for _, word := range strings.Fields(lower) {
		s += fmt.Sprintf(" %d:%s", to, word)
	}
	return made(keep, s)
}

// wide is a row of n entries, every fifth one with Del, whose keys are step apart.
func wide(n, from, step, seq int) []api.Entry {
	var row []api.Entry
	for i := range n {
		e := api.Entry{Key: fmt.Sprintf("k%05d", from+i*step), Value: fmt.Sprint("v", seq, i), Seq: seq + i}
		if i%5 == 4 {
			e.Value, e.Del = "", true
		}
		row = append(row, e)
	}
	return row
}

// row are n entries whose keys rise.
func row(n int) []api.Entry { return wide(n, 0, 1, 1) }

// great is a store of so many tables: the first fresh ones are of the level 0, and stand over one another; the others are shared out among the other levels.
func great(keep, fresh, tables, count int) store {
	s := store{w: tree.Tree{Bits: keep}}
	var at [4]int
	for i := range tables {
		level := 0
		if i >= fresh {
			level = 1 + 3*(i-fresh)/(tables-fresh)
		}
		s.l = append(s.l, api.Table{})
		s.rows = append(s.rows, wide(count, at[level], 2+level, 1000*(tables-i)))
		s.l[i] = modelTable(keep, level, s.rows[i])
		at[level] += 3
		if level > 0 {
			at[level] += count * (2 + level)
		}
	}
	return s
}

// quiet are texts of stores in which there is nothing to merge.
var quiet = []string{
	"",
	"0:a=1",
	"0:a-",
	"1:a=1",
	"3:b=1,d=1",
	"0:a=4 0:a=3 0:a=2 0:a=1",
	"0:a=4 0:a=3 0:a=2 0:a=1 1:a=1 2:a=1 3:a=1",
	filled(1, 8, "a"),
	filled(2, 32, "a"),
	"0:a=4 0:a=3 0:a=2 0:a=1" + filled(1, 8, "a") + filled(2, 32, "a") + filled(3, 60, "a"),
	filled(3, 90, "a"),
}

// due are texts of stores in which there is something to merge.
var due = []string{
	filled(0, 5, "a"),
	filled(0, 5, "a") + filled(1, 8, "a"),
	filled(0, 7, "a") + filled(1, 9, "a") + filled(2, 33, "a"),
	"0:a=5,d=5 0:b- 0:c=3,e=3 0:a- 0:d=1 1:a=0 1:b=0,d=0 1:f=0 2:a=9 3:a=8",
	"0:b- 0:b=1,d- 0:c- 0:d=1 0:b=1 1:a=1,c=1 2:b=1 3:c=1",
	"0:m=5 0:n=4 0:o=3 0:p=2 0:q=1 1:a=1,l=1 1:r=1,z=1",
	filled(1, 9, "a"),
	filled(1, 9, "a") + " 2:a=1,a00=1 2:a01=1,b=1",
	"0:a=1 1:a-,c- 1:d=1" + filled(1, 7, "f") + " 2:a=1,b=1 2:c=1,d=1 2:e=1 3:a=1,c=1",
	filled(2, 33, "a"),
	"0:b=1 1:b- 2:b-,d- 2:e=1" + filled(2, 31, "f") + " 3:a=1,b=1 3:c=1,d=1 3:e=1",
	"2:b-" + filled(2, 32, "f") + " 3:b=1",
	"2:b-,c-" + filled(2, 32, "f"),
}

// stores are some of many kinds, with few entries.
func stores(keep int) []store {
	var all []store
	for _, s := range slices.Concat(quiet, due) {
		all = append(all, made(keep, s))
	}
	return all
}

// rowsAt are those of the tables at these places.
func (s store) rowsAt(places []int) [][]api.Entry {
	var rows [][]api.Entry
	for _, i := range places {
		rows = append(rows, s.rows[i])
	}
	return rows
}

// asked is the rows that the next merge asks for; none, if there is none.
func (s store) asked() [][]api.Entry {
	places, _, _ := modelInputs(s.l)
	return s.rowsAt(places)
}

// clone is a list of rows that shares nothing with rows.
func clone(rows [][]api.Entry) [][]api.Entry {
	var c [][]api.Entry
	for _, row := range rows {
		c = append(c, slices.Clone(row))
	}
	return c
}

func sameRows(a, b [][]api.Entry) bool { return slices.EqualFunc(a, b, slices.Equal[[]api.Entry]) }

// flushes holds Flush against the model, and tells what both say.
func flushes(t *testing.T, w tree.Tree, l []api.Table, pending []api.Entry, what string) ([]api.Table, api.Errno) {
	t.Helper()
	next, err := Flush(w, l, pending)
	want, wantErr := modelFlush(w.Bits, l, pending)
	if err != wantErr || !slices.Equal(next, want) || err != api.OK && len(next) > 0 {
		t.Errorf("Flush, %d bits, %s: %.300v, %v, not %.300v, %v", w.Bits, what, next, err, want, wantErr)
	}
	return next, err
}

// notFlushed asks that Flush answers this error, and nothing else.
func notFlushed(t *testing.T, w tree.Tree, l []api.Table, pending []api.Entry, want api.Errno, what string) {
	t.Helper()
	if _, err := flushes(t, w, l, pending, what); err != want {
		t.Errorf("Flush, %s: %v, not %v", what, err, want)
	}
}

// picks holds Inputs against the model, and tells what both say.
func picks(t *testing.T, l []api.Table, what string) ([]int, int, bool) {
	t.Helper()
	places, to, is := Inputs(l)
	want, wantTo, wantIs := modelInputs(l)
	if !slices.Equal(places, want) || to != wantTo || is != wantIs {
		t.Errorf("Inputs, %s: %v, %d, %v, not %v, %d, %v", what, places, to, is, want, wantTo, wantIs)
	}
	return places, to, is
}

// compacts holds Compact against the model, and tells what both say.
func compacts(t *testing.T, w tree.Tree, l []api.Table, rows [][]api.Entry, what string) ([]api.Table, [][]api.Entry, api.Errno) {
	t.Helper()
	next, parts, err := Compact(w, l, rows)
	want, wantParts, wantErr := modelCompact(w.Bits, l, rows)
	if err != wantErr || !slices.Equal(next, want) || !sameRows(parts, wantParts) {
		t.Errorf("Compact, %d bits, %s: %.300v, %.300v, %v, not %.300v, %.300v, %v", w.Bits, what, next, parts, err, want, wantParts, wantErr)
	}
	return next, parts, err
}

// notCompacted asks that Compact answers this error, and nothing else.
func notCompacted(t *testing.T, w tree.Tree, l []api.Table, rows [][]api.Entry, want api.Errno, what string) {
	t.Helper()
	if next, parts, err := compacts(t, w, l, rows, what); err != want || len(next) > 0 || len(parts) > 0 {
		t.Errorf("Compact, %s: %.200v, %.200v, %v, not %v", what, next, parts, err, want)
	}
}

// places holds Place against the model, and tells what both say.
func places(t *testing.T, l []api.Table, inputs []int, parts []api.Table) []api.Table {
	t.Helper()
	next := Place(l, inputs, parts)
	if want := modelPlace(l, inputs, parts); !slices.Equal(next, want) {
		t.Errorf("Place of %.200v, %v, %.200v: %.200v, not %.200v", l, inputs, parts, next, want)
	}
	return next
}

// wrongLists are lists that are not right, all but for one thing that stands in one of five or more tables.
func wrongLists() map[string][]api.Table {
	all := map[string][]api.Table{}
	base := made(256, filled(0, 5, "b")+"1:a=1,b=1 1:c=1,d=1 2:a=1,b=1 3:a=1 3:b=1,c=1")
	turned := func(name string, i int, turn func(x *api.Table)) {
		l := slices.Clone(base.l)
		turn(&l[i])
		all[name] = l
	}
	for _, i := range []int{0, 4, 5, len(base.l) - 1} {
		at := fmt.Sprintf(" at %d", i)
		turned("a count of 0"+at, i, func(x *api.Table) { x.Count = 0 })
		turned("a count below 0"+at, i, func(x *api.Table) { x.Count = -1 })
		turned("a count of 65"+at, i, func(x *api.Table) { x.Count, x.Last = 65, x.First+"z" })
		turned("no first key"+at, i, func(x *api.Table) { x.First = "" })
		turned("no keys"+at, i, func(x *api.Table) { x.First, x.Last = "", "" })
		turned("a long key"+at, i, func(x *api.Table) { x.Count, x.Last = 2, x.First+long(128) })
		turned("a last key below the first"+at, i, func(x *api.Table) { x.Count, x.Last = 2, x.First[:len(x.First)-1]+" " })
		turned("one entry, two keys"+at, i, func(x *api.Table) { x.Count, x.Last = 1, x.First+"\x00" })
		turned("two entries, one key"+at, i, func(x *api.Table) { x.Count, x.Last = 2, x.First })
		turned("a level below 0"+at, i, func(x *api.Table) { x.Level = -1 })
		turned("a level above 3"+at, i, func(x *api.Table) { x.Level = 4 })
	}
	turned("a level out of its order", 0, func(x *api.Table) { x.Level = 1 })
	turned("a level behind a greater one", 7, func(x *api.Table) { x.Level = 0 })
	turned("tables of a level over each other", 6, func(x *api.Table) { x.First = "b" })
	turned("tables of a level in falling order", 6, func(x *api.Table) { x.Count, x.First, x.Last = 1, "A", "A" })
	all["513 tables"] = great(256, 20, 513, 1).l
	all["513 tables of the level 0"] = great(256, 513, 513, 1).l
	all["a table of zeros"] = []api.Table{{}}
	return all
}

// wrongRows are rows of which no table may be made.
func wrongRows() map[string][]api.Entry {
	right := api.Entry{Key: "b", Value: "v", Seq: 5}
	all := map[string][]api.Entry{
		"none":                 nil,
		"65":                   row(65),
		"1000":                 row(1000),
		"falling":              entries("b=1,a=1", 1),
		"falling at the end":   entries("a=1,b=1,d=1,c=1", 1),
		"one key twice":        entries("a=1,b=1,b=2,c=1", 1),
		"one key twice, first": entries("a=1,a-", 1),
	}
	for name, turn := range map[string]func(e *api.Entry){
		"no key":           func(e *api.Entry) { e.Key = "" },
		"a long key":       func(e *api.Entry) { e.Key = long(129) },
		"a long value":     func(e *api.Entry) { e.Value = long(1025) },
		"Del with a value": func(e *api.Entry) { e.Del = true },
		"no Seq":           func(e *api.Entry) { e.Seq = 0 },
		"Seq below 0":      func(e *api.Entry) { e.Seq = -1 },
		"a great Seq":      func(e *api.Entry) { e.Seq = 1<<40 + 1 },
	} {
		wrong := right
		turn(&wrong)
		all[name] = []api.Entry{wrong}
		all[name+", among others"] = []api.Entry{{Key: "\x00", Seq: 1}, wrong, {Key: "z", Seq: 2}}
	}
	return all
}
