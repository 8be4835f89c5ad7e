package proof

import (
	"fmt"
	"math/rand/v2"
	"slices"
	"strings"
	"testing"

	"marlstone/api"
)

// rowsOf is rows out of a short text, divided by blanks; a dot is a row without entries.
func rowsOf(s string) [][]api.Entry {
	var rows [][]api.Entry
	for i, word := range strings.Fields(s) {
		if word == "." {
			rows = append(rows, nil)
			continue
		}
		rows = append(rows, entries(word, 1+10*i))
	}
	return rows
}

// heldWhole holds Whole against the model, and tells what it says in short.
func heldWhole(t *testing.T, rows [][]api.Entry) string {
	t.Helper()
	before := store{rows: rows}.clone().rows
	l := Whole(rows)
	if want := modelWhole(rows); !slices.Equal(l, want) {
		t.Fatalf("Whole of %.300v: %.300v, not %.300v", rows, l, want)
	}
	if !slices.EqualFunc(rows, before, slices.Equal[[]api.Entry]) {
		t.Fatalf("Whole changed %.300v to %.300v", before, rows)
	}
	var words []string
	for i, e := range l {
		if e.Del || i > 0 && e.Key <= l[i-1].Key {
			t.Errorf("Whole of %.300v: %.300v", rows, l)
		}
		words = append(words, e.Key+"="+e.Value)
	}
	return strings.Join(words, ",")
}

// Q1: no row, one, several with the same keys, not sorted, with a key twice in one row, with Del in the first and in later ones.
func TestWhole(t *testing.T) {
	for _, w := range [][2]string{
		{"", ""}, {".", ""}, {". . .", ""},
		{"a=1", "a=1"}, {"a=1,b=2,c=3", "a=1,b=2,c=3"}, {". a=1 .", "a=1"},
		// Several rows: the first one that has the key counts.
		{"a=1 a=2", "a=1"}, {"a=2 a=1", "a=2"}, {"a=1 a=2 a=3 a=4", "a=1"},
		{"a=1 b=2", "a=1,b=2"}, {"b=1 a=2", "a=2,b=1"}, {"b=1 a=2,b=2,c=2", "a=2,b=1,c=2"}, {"a=1,c=1 b=2,c=2,d=2 a=3,b=3,c=3,d=3,e=3", "a=1,b=2,c=1,d=2,e=3"},
		{"a= a=1", "a="},
		// Rows that are not sorted.
		{"c=1,a=2,b=3", "a=2,b=3,c=1"}, {"c=1,a=1 d=2,b=2,a=2", "a=1,b=2,c=1,d=2"}, {"b=1,a=1 c=2 a=3,d=3", "a=1,b=1,c=2,d=3"},
		// A key twice in one row: its first entry counts.
		{"a=1,a=2", "a=1"}, {"a=1,b=1,a=2", "a=1,b=1"}, {"b=1,a=1,a=2,b=2", "a=1,b=1"}, {"a=1,a=2 a=3", "a=1"}, {"b=1 a=2,a=3,b=3", "a=2,b=1"},
		// Del hides what is older, and is not told.
		{"a-", ""}, {"a-,b=1", "b=1"}, {"a- a=1", ""}, {"a- a=1,b=1", "b=1"}, {"b=0 a- a=2", "b=0"}, {"a- a- a=1", ""}, {"a- . a=1", ""},
		{"a=1 a-", "a=1"}, {"a=1 a- a=2", "a=1"}, {"b=1 a- a=2,b-", "b=1"}, {"a=1,b-,c=1 a-,b=2,c-,d- b=3,d=3", "a=1,c=1"},
		{"a-,a=1", ""}, {"a=1,a-", "a=1"}, {"a-,a=1 a=2", ""}, {"b=1,a-,a=1 a=2,b-", "b=1"},
		// Keys rise byte by byte, the empty one first of all.
		{"b=1,a\x01=2,a=3,B=4,aa=5", "B=4,a=3,a\x01=2,aa=5,b=1"}, {"\xff=1,\x80=2,\x7f=3 \x01=4", "\x01=4,\x7f=3,\x80=2,\xff=1"}, {"a=1,=2", "=2,a=1"}, {"=1 =2", "=1"}, {"- =2", ""},
	} {
		if got := heldWhole(t, rowsOf(w[0])); got != w[1] {
			t.Errorf("Whole of %q: %q, not %q", w[0], got, w[1])
		}
	}
	for _, rows := range [][][]api.Entry{nil, {}, {nil}, {{}}, {{}, nil, {}}} {
		if l := Whole(rows); len(l) != 0 {
			t.Errorf("Whole of %#v: %v", rows, l)
		}
	}
}

// Q1: all of the entry is told; Seq does not matter, and entries need not be right.
func TestWholeAsksForKeysAndDelAlone(t *testing.T) {
	rows := [][]api.Entry{
		{{Key: "b", Value: "old", Seq: 1}, {Key: "", Value: "no key", Seq: -1}, {Key: "d", Value: "v", Del: true, Seq: 9}},
		{{Key: "b", Value: "new", Seq: 9}, {Key: "a", Value: long(5000), Seq: 1 << 62}, {Key: "d", Value: "w", Seq: 10}},
		{{Key: "b", Del: true, Seq: 10}, {Key: "a", Seq: 7}, {Key: long(5000), Value: "x"}},
	}
	heldWhole(t, rows)
	want := []api.Entry{rows[0][1], rows[1][1], rows[0][0], rows[2][2]}
	if l := Whole(rows); !slices.Equal(l, want) {
		t.Errorf("Whole: %.300v", l)
	}
}

// Q1: all rows of up to three entries over few keys, as up to three rows.
func TestWholeOfAllShortRows(t *testing.T) {
	all := [][]api.Entry{nil}
	for from := 0; len(all) < 1+4+16+64; from++ {
		for _, e := range []api.Entry{{Key: "a", Value: "x", Seq: from + 1}, {Key: "a", Del: true}, {Key: "b", Value: "y", Seq: from + 1}, {Key: "b", Del: true}} {
			all = append(all, append(slices.Clone(all[from]), e))
		}
	}
	for _, r := range all {
		heldWhole(t, [][]api.Entry{r})
		for _, s := range all {
			heldWhole(t, [][]api.Entry{r, s})
		}
	}
	few := all[:21]
	for _, r := range few {
		for _, s := range few {
			for _, u := range few {
				heldWhole(t, [][]api.Entry{r, s, u})
			}
		}
	}
}

// Q1: rows by chance, and very many entries.
func TestWholeDrawn(t *testing.T) {
	r := rand.New(rand.NewPCG(16, 1))
	for range 3000 {
		rows := make([][]api.Entry, r.IntN(7))
		keys := 1 + r.IntN(20)
		for i := range rows {
			for range r.IntN(12) {
				rows[i] = append(rows[i], api.Entry{Key: fmt.Sprint(r.IntN(keys)), Value: fmt.Sprint(r.IntN(9)), Del: r.IntN(3) == 0, Seq: r.IntN(99)})
			}
		}
		heldWhole(t, rows)
	}
	heldWhole(t, great(256, 512, 64).rows)
	one := []api.Entry{}
	for i := range 100000 {
		one = append(one, api.Entry{Key: fmt.Sprint(i * 7919 % 60013), Value: fmt.Sprint(i), Del: i%11 == 0, Seq: i + 1})
	}
	heldWhole(t, [][]api.Entry{one[:50000], one[50000:]})
}

// Q1: of a store, Whole is what Check tells, key by key.
func TestWholeIsWhatCheckTells(t *testing.T) {
	for _, s := range stores(256) {
		var l []api.Entry
		for _, key := range s.asked() {
			if e, is, err := Check(s.w, s.digest(), key, s.proof(t, key)); is && err == api.OK {
				l = append(l, e)
			}
		}
		if whole := Whole(s.rows); !slices.Equal(whole, l) {
			t.Errorf("Whole of %.300v: %v, not %v", s.rows, whole, l)
		}
	}
}
