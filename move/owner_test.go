package move

import (
	"fmt"
	"reflect"
	"slices"
	"testing"

	"marlstone/api"
	"marlstone/tree"
)

// walk shows each list in v, with the room behind its items, and all that stands in its items.
func walk(v reflect.Value, show func(list reflect.Value)) {
	switch v.Kind() {
	case reflect.Slice:
		all := v.Slice(0, v.Cap())
		show(all)
		for i := range all.Len() {
			walk(all.Index(i), show)
		}
	case reflect.Struct:
		for i := range v.NumField() {
			walk(v.Field(i), show)
		}
	}
}

// everything is all that stands in the lists of some values, and in the room behind.
func everything(values ...any) string {
	told := ""
	for _, v := range values {
		walk(reflect.ValueOf(v), func(list reflect.Value) { told += fmt.Sprintf("%d %v;", list.Len(), list) })
	}
	return told
}

// apart asks that no two lists of these values, the room behind with them, share memory.
func apart(t *testing.T, what string, values ...any) {
	t.Helper()
	var places [][2]uintptr
	for _, v := range values {
		walk(reflect.ValueOf(v), func(list reflect.Value) {
			if list.Len() > 0 {
				from := list.Pointer()
				places = append(places, [2]uintptr{from, from + uintptr(list.Len())*list.Type().Elem().Size()})
			}
		})
	}
	slices.SortFunc(places, func(a, b [2]uintptr) int { return int(a[0]) - int(b[0]) })
	for i := range places {
		if i > 0 && places[i-1][1] > places[i][0] {
			t.Errorf("%s: two lists share memory", what)
		}
	}
}

// overwrite makes all items of the lists in some values zero, and the room behind.
func overwrite(values ...any) {
	for _, v := range values {
		walk(reflect.ValueOf(v), func(list reflect.Value) {
			if list.Type().Elem().Kind() != reflect.Slice {
				for i := range list.Len() {
					list.Index(i).SetZero()
				}
			}
		})
	}
}

func roomy[T any](l []T, room ...T) []T { return append(slices.Clone(l), room...)[:len(l)] }

// roomyRows are rows, with room behind all of them, that are their owner's.
func roomyRows(rows [][]api.Entry) [][]api.Entry {
	var c [][]api.Entry
	for _, row := range rows {
		c = append(c, roomy(row, api.Entry{Key: "room"}))
	}
	return roomy(c, []api.Entry{{Key: "room"}})
}

// R1: what is handed to Flush stays as it was, the room behind it too; what comes out shares nothing with it, or with another answer.
func TestFlushIsItsOwners(t *testing.T) {
	for _, s := range append(stores(256), great(256, 511, 511, 1)) {
		for _, pending := range [][]api.Entry{entries("a=1", 1), row(64)} {
			want, wantErr := modelFlush(256, s.l, pending)
			l, p := roomy(s.l, api.Table{Level: 7}, api.Table{Level: 8}), roomy(pending, api.Entry{Key: "room"})
			before := everything(l, p)
			next, err := Flush(s.w, l, p)
			again, _ := Flush(s.w, l, p)
			apart(t, "Flush", l, p, next, again)
			if everything(l, p) != before {
				t.Errorf("Flush of %.90v wrote over what it was handed", pending)
			}
			overwrite(again)
			overwrite(l, p)
			if err != wantErr || !slices.Equal(next, want) {
				t.Errorf("Flush of %.90v hangs on what it was handed: %.300v, %v", pending, next, err)
			}
			flushes(t, s.w, s.l, pending, "once more")
		}
	}
}

// R1: the same of Inputs and Compact.
func TestCompactIsItsOwners(t *testing.T) {
	all := append(stores(256), great(256, 5, 20, 64), great(256, 100, 512, 3))
	for _, s := range all {
		rows := s.asked()
		want, wantParts, wantErr := modelCompact(256, s.l, rows)
		wantPlaces, _, _ := modelInputs(s.l)
		l, r := roomy(s.l, api.Table{Level: 7}, api.Table{Level: 8}), roomyRows(rows)
		before := everything(l, r)
		at, _, _ := Inputs(l)
		atAgain, _, _ := Inputs(l)
		next, parts, err := Compact(s.w, l, r)
		again, partsAgain, _ := Compact(s.w, l, r)
		apart(t, "Compact", l, r, at, atAgain, next, parts, again, partsAgain)
		if everything(l, r) != before {
			t.Errorf("Compact of %.90v wrote over what it was handed", s.l)
		}
		overwrite(atAgain, again, partsAgain)
		overwrite(l, r)
		if !slices.Equal(at, wantPlaces) || err != wantErr || !slices.Equal(next, want) || !sameRows(parts, wantParts) {
			t.Errorf("Compact of %.90v hangs on what it was handed: %v, %.300v, %.300v, %v", s.l, at, next, parts, err)
		}
		compacts(t, s.w, s.l, rows, "once more")
		picks(t, s.l, "once more")
	}
}

// R1: the same of Place.
func TestPlaceIsItsOwners(t *testing.T) {
	for _, l := range lists(2, tables("0:a 1:b 2:a"), "old") {
		for _, inputs := range [][]int{nil, {0}, {1, 0}, {5, -5}} {
			for _, parts := range lists(2, tables("0:b 1:a 2:a"), "new") {
				want := modelPlace(l, inputs, parts)
				mine, at, p := roomy(l, tables("7:r 8:r 9:r")...), roomy(inputs, 0, 1), roomy(parts, tables("7:p 8:p")...)
				before := everything(mine, at, p)
				next, again := Place(mine, at, p), Place(mine, at, p)
				apart(t, "Place", mine, at, p, next, again)
				if everything(mine, at, p) != before {
					t.Errorf("Place of %v, %v, %v wrote over what it was handed", l, inputs, parts)
				}
				overwrite(again)
				overwrite(mine, at, p)
				if !slices.Equal(next, want) {
					t.Errorf("Place of %v, %v, %v hangs on what it was handed: %v", l, inputs, parts, next)
				}
			}
		}
	}
}

// R2, R4, R5: whatever is handed in, there is an answer, and the same one again.
func TestWhateverIsHandedIn(t *testing.T) {
	odd := []api.Table{{}, {Level: -1, Count: -1}, {Level: 1 << 62, Count: 1 << 62, First: "b", Last: "a"}, {Count: 1, First: "a", Last: "a"}, {Level: -1 << 63, First: long(1000)}}
	entries := []api.Entry{{}, {Key: "a", Seq: -1}, {Key: "a", Seq: 1 << 62, Del: true, Value: "v"}, {Key: long(5000), Value: long(5000), Seq: 1}, {Key: "a", Seq: 1}}
	for _, keep := range keeps {
		w := tree.Tree{Bits: keep}
		for range 2 {
			for n := range len(odd) + 1 {
				for m := range len(entries) + 1 {
					flushes(t, w, odd[:n], entries[:m], "odd ones")
					flushes(t, w, odd[n:], entries[m:], "odd ones")
					compacts(t, w, odd[:n], [][]api.Entry{entries[:m], nil, entries[m:]}, "odd ones")
				}
				picks(t, odd[:n], "odd ones")
				compacts(t, w, odd[n:], make([][]api.Entry, n), "empty rows")
				compacts(t, w, made(keep, filled(0, 5, "a")).l, make([][]api.Entry, n), "empty rows")
			}
			compacts(t, w, made(keep, filled(0, 5, "a")).l, make([][]api.Entry, 100000), "many rows")
			compacts(t, w, made(keep, filled(0, 5, "a")).l, [][]api.Entry{make([]api.Entry, 100000), nil, nil, nil, nil}, "a long row")
			flushes(t, w, nil, make([]api.Entry, 100000), "a long row")
			picks(t, make([]api.Table, 100000), "many tables")
		}
	}
}

// pieces reads what a fuzzer made as numbers, texts and lists.
type pieces struct{ b []byte }

func (p *pieces) small() int {
	if len(p.b) == 0 {
		return 0
	}
	c := p.b[0]
	p.b = p.b[1:]
	return int(int8(c))
}

// below is a number from 0 on and below n.
func (p *pieces) below(n int) int { return int(uint8(p.small())) % n }

func (p *pieces) text() string {
	n := min(p.below(6), len(p.b))
	s := p.b[:n]
	p.b = p.b[n:]
	return string(s)
}

// entry is mostly one that is right.
func (p *pieces) entry() api.Entry {
	e := api.Entry{Key: p.text(), Seq: 1 + p.below(100)}
	switch p.below(8) {
	case 0:
		e.Del = true
	case 1:
		e.Del, e.Value = true, p.text()
	case 2:
		e.Seq = p.small()
	default:
		e.Value = p.text()
	}
	return e
}

// row is mostly sorted.
func (p *pieces) row() []api.Entry {
	row := []api.Entry{p.entry()}
	for range p.below(4) {
		row = append(row, p.entry())
	}
	if p.below(8) > 0 {
		row = laid([][]api.Entry{row})
	}
	return row
}

// store is one that may be right or not, mostly with more tables than a level has at rest.
func (p *pieces) store(w tree.Tree) store {
	s := store{w: w}
	from, key := p.below(4), 0
	for range p.below(8) {
		s = s.with(0, p.row())
	}
	for level := from; level < 4; level++ {
		for range []int{5, 9, 33, 2}[level] - p.below(3) {
			row := []api.Entry{{Key: fmt.Sprintf("%03d", key), Value: p.text(), Seq: 1}}
			if p.below(4) == 0 {
				row = append(row, api.Entry{Key: fmt.Sprintf("%03d", key+p.below(9)), Del: true, Seq: 2})
			}
			s = s.with(level, row)
			key += 1 + p.below(4)
		}
		key = p.below(20)
	}
	return s
}

// tables are of any kind.
func (p *pieces) tables() []api.Table {
	var l []api.Table
	for range p.below(12) {
		l = append(l, api.Table{Level: p.small() % 4, Count: p.small(), Root: api.Digest{byte(p.small())}, First: p.text(), Last: p.text()})
	}
	return l
}

// R2, and all of the chapter: whatever is handed in, the program and the model say the same.
func FuzzAll(f *testing.F) {
	f.Add([]byte{})
	f.Add([]byte{8, 0, 7, 1, 'a', 5, 1, 'v', 0, 1, 'b'})
	f.Add([]byte{127, 1, 0, 1, 'a', 5, 1, 'v', 0, 1, 'b', 3, 1, 2, 3, 4, 5})
	f.Add([]byte{4, 2, 0, 1, 'a', 0, 1, 'b', 7, 0, 5, 1, 'c', 0, 3, 2, 2, 0, 1})
	f.Add([]byte{100, 3, 0, 0, 0, 1, 'x', 5, 5, 5, 5, 5, 5, 5, 5, 5})
	f.Fuzz(func(t *testing.T, b []byte) {
		in := &pieces{b}
		w := tree.Tree{Bits: in.small()}
		s := in.store(w)
		flushes(t, w, s.l, in.row(), "a fuzzer's store")
		_, to, is := picks(t, s.l, "a fuzzer's store")
		rows := s.asked()
		next, _, err := compacts(t, w, s.l, rows, "a fuzzer's store")
		if err == api.OK && (!is || to == 0 || !modelRight(next) || modelScore(next) >= modelScore(s.l)) {
			t.Errorf("Compact of %v: %v", s.l, next)
		}
		if len(rows) > 0 {
			k := in.below(len(rows))
			rows[k] = in.row()
			compacts(t, w, s.l, rows, "a fuzzer's row")
			rows[k] = s.rows[in.below(len(s.rows))]
			compacts(t, w, s.l, rows, "another one's row")
			compacts(t, w, s.l, rows[:k], "less rows")
		}
		l := in.tables()
		flushes(t, w, l, in.row(), "a fuzzer's tables")
		compacts(t, w, l, rows, "a fuzzer's tables")
		var inputs []int
		for range in.below(9) {
			inputs = append(inputs, in.small())
		}
		places(t, l, inputs, in.tables())
		places(t, s.l, inputs, l)
	})
}
