package proof

import (
	"fmt"
	"reflect"
	"slices"
	"testing"

	"marlstone/api"
	"marlstone/sum"
	"marlstone/summary"
	"marlstone/tree"
)

// walk shows each list in v, with the room behind its items, and all that stands in its items.
func walk(v reflect.Value, show func(list reflect.Value)) {
	switch v.Kind() {
	case reflect.Slice:
		all := v.Slice(0, v.Cap())
		show(all)
		for i := range all.Len() {
			walk(all.Index(i), show)
		}
	case reflect.Struct:
		for i := range v.NumField() {
			walk(v.Field(i), show)
		}
	}
}

// everything is all that stands in the lists of some values, and in the room behind.
func everything(values ...any) string {
	told := ""
	for _, v := range values {
		walk(reflect.ValueOf(v), func(list reflect.Value) { told += fmt.Sprintf("%d %v;", list.Len(), list) })
	}
	return told
}

// apart asks that no two lists of these values, the room behind with them, share memory.
func apart(t *testing.T, what string, values ...any) {
	t.Helper()
	var places [][2]uintptr
	for _, v := range values {
		walk(reflect.ValueOf(v), func(list reflect.Value) {
			if list.Len() > 0 {
				from := list.Pointer()
				places = append(places, [2]uintptr{from, from + uintptr(list.Len())*list.Type().Elem().Size()})
			}
		})
	}
	slices.SortFunc(places, func(a, b [2]uintptr) int { return int(a[0]) - int(b[0]) })
	for i := range places {
		if i > 0 && places[i-1][1] > places[i][0] {
			t.Errorf("%s: two lists share memory", what)
		}
	}
}

// overwrite turns all items of the lists in a value, and the room behind.
func overwrite(v any) {
	walk(reflect.ValueOf(v), func(list reflect.Value) {
		for i := range list.Len() {
			switch item := list.Index(i); item.Kind() {
			case reflect.Uint8:
				item.SetUint(^item.Uint() & 0xff)
			case reflect.Array:
				item.Index(0).SetUint(^item.Index(0).Uint() & 0xff)
			}
		}
	})
}

func roomy[T any](l []T, room ...T) []T { return append(slices.Clone(l), room...)[:len(l)] }

// roomyStore is s, with room behind all of its lists, that is its owner's.
func roomyStore(s store) store {
	c := store{w: s.w, l: roomy(s.l, api.Table{Level: 7})}
	for _, row := range s.rows {
		c.rows = append(c.rows, roomy(row, api.Entry{Key: "room"}))
	}
	c.rows = roomy(c.rows, []api.Entry{{Key: "room"}})
	return c
}

func roomyOpening(o api.Opening) api.Opening {
	return api.Opening{At: o.At, Leaf: roomy(o.Leaf, 'r'), Path: roomy(o.Path, api.Digest{7})}
}

func roomyProof(p api.Proof) api.Proof {
	c := api.Proof{Summary: roomy(p.Summary, 'r')}
	for _, point := range p.Points {
		c.Points = append(c.Points, api.Point{Between: point.Between, A: roomyOpening(point.A), B: roomyOpening(point.B)})
	}
	c.Points = roomy(c.Points, api.Point{Between: true})
	return c
}

func roomySweep(s api.Sweep) api.Sweep {
	c := api.Sweep{Summary: roomy(s.Summary, 'r')}
	for _, span := range s.Spans {
		r := api.Span{From: span.From, Path: roomy(span.Path, api.Digest{7})}
		for _, leaf := range span.Leaves {
			r.Leaves = append(r.Leaves, roomy(leaf, 'r'))
		}
		r.Leaves = roomy(r.Leaves, []byte("room"))
		c.Spans = append(c.Spans, r)
	}
	c.Spans = roomy(c.Spans, api.Span{From: 7})
	return c
}

// R1: what is handed in stays as it was, the room behind it too; what comes out shares nothing, with what was handed in, with another answer, or in itself.
func TestKeyIsItsOwners(t *testing.T) {
	for _, s := range stores(256) {
		d := s.digest()
		for _, key := range s.asked() {
			mine := roomyStore(s)
			before := everything(mine.l, mine.rows)
			p, again := mine.proof(t, key), mine.proof(t, key)
			apart(t, "Prove", mine.l, mine.rows, p, again)
			if everything(mine.l, mine.rows) != before {
				t.Errorf("Prove of %.20q wrote over its store", key)
			}
			want := cloneProof(p)
			overwrite(again)
			if !sameProof(p, want) || !sameProof(mine.proof(t, key), want) {
				t.Errorf("Prove of %.20q: what was answered is kept", key)
			}
			q := roomyProof(p)
			before = everything(q)
			e, is, err := Check(s.w, d, key, q)
			if everything(q) != before {
				t.Errorf("Check of %.20q wrote over its proof", key)
			}
			overwrite(q)
			if wantE, wantIs := modelHas(s.rows, key); e != wantE || is != wantIs || err != api.OK {
				t.Errorf("Check of %.20q: %v, %v, %v", key, e, is, err)
			}
			refused(t, s.w, d, key, q, api.ErrForm, "a proof written over")
			if e, is, err := Check(s.w, d, key, p); err != api.OK || is != (e != api.Entry{}) {
				t.Errorf("Check of %.20q again: %v, %v, %v", key, e, is, err)
			}
		}
	}
}

// R1: the same of sweeps.
func TestKeysAreTheirOwners(t *testing.T) {
	for _, s := range stores(256) {
		d, all := s.digest(), modelWhole(s.rows)
		for _, lo := range s.asked() {
			mine := roomyStore(s)
			before := everything(mine.l, mine.rows)
			w, again := mine.sweep(t, lo, ""), mine.sweep(t, lo, "")
			apart(t, "ProveSweep", mine.l, mine.rows, w, again)
			if everything(mine.l, mine.rows) != before {
				t.Errorf("ProveSweep from %.20q wrote over its store", lo)
			}
			want := cloneSweep(w)
			overwrite(again)
			if !sameSweep(w, want) || !sameSweep(mine.sweep(t, lo, ""), want) {
				t.Errorf("ProveSweep from %.20q: what was answered is kept", lo)
			}
			v := roomySweep(w)
			before = everything(v)
			l, err := CheckSweep(s.w, d, lo, "", v)
			other, _ := CheckSweep(s.w, d, lo, "", v)
			apart(t, "CheckSweep", v, l, other)
			if everything(v) != before {
				t.Errorf("CheckSweep from %.20q wrote over its sweep", lo)
			}
			overwrite(v)
			clear(other)
			if !slices.Equal(l, modelWithin(all, lo, "")) || err != api.OK {
				t.Errorf("CheckSweep from %.20q: %v, %v", lo, l, err)
			}
			refusedSweep(t, s.w, d, lo, "", v, api.ErrForm, "a sweep written over")
		}
	}
}

// R1: Whole shares nothing with its rows.
func TestWholeIsItsOwners(t *testing.T) {
	for _, s := range append(stores(256), great(256, 8, 64), made(256, "0:b=1,a=2,b=3 0:a-,c=1")) {
		mine := roomyStore(s)
		before := everything(mine.rows)
		l, again := Whole(mine.rows), Whole(mine.rows)
		apart(t, "Whole", mine.rows, l, again)
		clear(again[:cap(again)])
		if everything(mine.rows) != before || !slices.Equal(l, modelWhole(s.rows)) {
			t.Errorf("Whole of %.300v: %.300v", s.rows, l)
		}
		for _, row := range mine.rows {
			clear(row[:cap(row)])
		}
		if !slices.Equal(l, modelWhole(s.rows)) {
			t.Errorf("Whole of %.300v hangs on its rows: %.300v", s.rows, l)
		}
	}
}

// R2, R4: asked again, the same is answered; whatever is handed in, there is an answer.
func TestWhateverIsHandedIn(t *testing.T) {
	odd := []api.Table{{}, {Level: -1, Count: -1}, {Level: 1 << 62, Count: 1 << 62, First: "b", Last: "a"}, {Count: 1, First: "a", Last: "a"}}
	for _, keep := range keeps {
		w := tree.Tree{Bits: keep}
		for range 2 {
			for n := range odd {
				for _, rows := range [][][]api.Entry{nil, make([][]api.Entry, n), make([][]api.Entry, n+1), {{{}}}, {{{Key: "a", Seq: -1}}}, {make([]api.Entry, 1000)}} {
					p, err := Prove(w, odd[:n], rows, "a")
					s, sweepErr := ProveSweep(w, odd[:n], rows, "", "")
					if fits := n == 0 && len(rows) == 0; fits != (err == api.OK) || fits != (sweepErr == api.OK) || !fits && !(sameProof(p, api.Proof{}) && sameSweep(s, api.Sweep{})) {
						t.Errorf("Prove of %v, %v: %v, %v, %v, %v", odd[:n], rows, p, err, s, sweepErr)
					}
				}
			}
			held(t, w, api.Digest{}, "", api.Proof{}, "nothing")
			heldSweep(t, w, api.Digest{}, "", "", api.Sweep{}, "nothing")
			for _, at := range []int{-1 << 63, -1, 0, 1, 1<<63 - 1} {
				s := made(keep, "0:a=1,c=1 3:a=1,b=1,d=1")
				o := api.Opening{At: at, Leaf: []byte{0, 1}, Path: make([]api.Digest, 3)}
				points := []api.Point{{Between: true, A: o, B: o}, {A: o}}
				held(t, w, s.digest(), "b", api.Proof{Summary: []byte(rawSummary(s.l)), Points: points}, "odd points")
				spans := []api.Span{{From: at, Leaves: [][]byte{nil}}, {From: at, Leaves: make([][]byte, 9), Path: make([]api.Digest, 9)}}
				heldSweep(t, w, s.digest(), "", "", api.Sweep{Summary: []byte(rawSummary(s.l)), Spans: spans}, "odd spans")
			}
		}
	}
}

// pieces reads what a fuzzer made as numbers, texts and lists.
type pieces struct{ b []byte }

func (p *pieces) small() int {
	if len(p.b) == 0 {
		return 0
	}
	c := p.b[0]
	p.b = p.b[1:]
	return int(int8(c))
}

func (p *pieces) text() string {
	n := min(max(p.small(), 0), len(p.b))
	s := p.b[:n]
	p.b = p.b[n:]
	return string(s)
}

func (p *pieces) path() []api.Digest {
	var path []api.Digest
	for range max(p.small(), 0) % 4 {
		path = append(path, api.Digest{byte(p.small())})
	}
	return path
}

func (p *pieces) opening() api.Opening {
	return api.Opening{At: p.small(), Leaf: []byte(p.text()), Path: p.path()}
}

// store is one that may fit or not: its rows rise at times, and its levels, too.
func (p *pieces) store(w tree.Tree) store {
	s := store{w: w}
	for range max(p.small(), 0) % 6 {
		var row []api.Entry
		for range 1 + max(p.small(), 0)%4 {
			row = append(row, api.Entry{Key: p.text(), Value: p.text(), Del: p.small()%2 != 0, Seq: p.small()})
		}
		level := p.small() % 5
		if p.small()%2 == 0 {
			slices.SortFunc(row, func(a, b api.Entry) int { return slices.Compare([]byte(a.Key), []byte(b.Key)) })
		}
		x := modelTable(w.Bits, level, row)
		if p.small() == 1 {
			x.Count++
		}
		s.l, s.rows = append(s.l, x), append(s.rows, row)
	}
	if p.small()%2 == 0 {
		s.rows = append(s.rows, nil)[:max(0, len(s.rows)+p.small()%2)]
	}
	return s
}

// R2, and all of the chapter: whatever is handed in, the program and the model say the same.
func FuzzAll(f *testing.F) {
	f.Add([]byte{}, "", "", "")
	f.Add([]byte("\x08\x01\x01\x01b\x01v\x00\x05\x01d\x00\x01\x06\x00\x00\x00\x01\x01\x00"), "b", "a", "c")
	f.Add([]byte("\x7f\x02\x00\x01b\x01v\x00\x05\x00\x00\x00\x00\x01b\x00\x01\x06\x01\x00\x00\x01\x00\x01\x00\x01b"), "b", "", "")
	f.Fuzz(func(t *testing.T, b []byte, key, lo, hi string) {
		in := &pieces{b}
		w := tree.Tree{Bits: in.small()}
		s := in.store(w)
		if l, want := Whole(s.rows), modelWhole(s.rows); !slices.Equal(l, want) {
			t.Errorf("Whole of %v: %v, not %v", s.rows, l, want)
		}
		p, err := Prove(w, s.l, s.rows, key)
		if want, wantErr := modelProve(w, s.l, s.rows, key); err != wantErr || !sameProof(p, want) {
			t.Errorf("Prove of %q in %v: %v, %v, not %v, %v", key, s, p, err, want, wantErr)
		}
		v, err := ProveSweep(w, s.l, s.rows, lo, hi)
		if want, wantErr := modelProveSweep(w, s.l, s.rows, lo, hi); err != wantErr || !sameSweep(v, want) {
			t.Errorf("ProveSweep from %q to %q of %v: %v, %v, not %v, %v", lo, hi, s, v, err, want, wantErr)
		}
		d := sum.Kept(summary.Text(p.Summary), w.Bits)
		e, is, _ := held(t, w, d, key, p, "its own proof")
		if wantE, wantIs := modelHas(s.rows, key); err == api.OK && (e != wantE || is != wantIs) {
			t.Errorf("Check of %q in %v: %v, %v", key, s, e, is)
		}
		heldSweep(t, w, d, lo, hi, v, "its own sweep")
		held(t, w, d, lo, p, "the proof of another key")
		heldSweep(t, w, d, "", lo, v, "the sweep of other keys")
		for range max(in.small(), 0) % 4 {
			p.Points = append(p.Points, api.Point{Between: in.small()%2 != 0, A: in.opening(), B: in.opening()})
		}
		held(t, w, d, key, p, "with a fuzzer's points")
		p.Summary, v.Summary = []byte(in.text()), []byte(in.text())
		held(t, w, sum.Kept(summary.Text(p.Summary), w.Bits), key, p, "a fuzzer's summary")
		heldSweep(t, w, sum.Kept(summary.Text(v.Summary), w.Bits), lo, hi, v, "a fuzzer's summary")
		held(t, w, d, key, p, "a fuzzer's summary, with another digest")
	})
}
