package proof

import (
	"bytes"
	"encoding/hex"
	"fmt"
	"math"
	"slices"
	"strings"
	"testing"

	"marlstone/api"
	"marlstone/tree"
)

// keeps are numbers of bits: those that there are, and some below and above.
var keeps = []int{math.MinInt, -1, 0, 1, 2, 8, 100, 255, 256, 257, 1000, math.MaxInt}

func digest(s string) api.Digest {
	b, _ := hex.DecodeString(s)
	return api.Digest(b)
}

func long(n int) string { return strings.Repeat("k", n) }

// store is the tables of a store, and the entries of each.
type store struct {
	w    tree.Tree
	l    []api.Table
	rows [][]api.Entry
}

// with is a store that has one table more, behind all others.
func (s store) with(level int, row []api.Entry) store {
	s.l = append(slices.Clone(s.l), modelTable(s.w.Bits, level, row))
	s.rows = append(slices.Clone(s.rows), row)
	return s
}

// clone is a store that shares nothing with s.
func (s store) clone() store {
	c := store{w: s.w, l: slices.Clone(s.l)}
	for _, row := range s.rows {
		c.rows = append(c.rows, slices.Clone(row))
	}
	return c
}

func (s store) digest() api.Digest { return modelDigest(s.w.Bits, s.l) }

// entries are those of a short text, divided by commas: key=value, or key- with Del; Seq goes on by one from seq on.
func entries(s string, seq int) []api.Entry {
	var row []api.Entry
	for k, text := range strings.Split(s, ",") {
		key, value, is := strings.Cut(text, "=")
		e := api.Entry{Key: key, Value: value, Seq: seq + k}
		if !is {
			e.Key, e.Del = strings.TrimSuffix(key, "-"), true
		}
		row = append(row, e)
	}
	return row
}

// made is a store out of a short text: of each table the level, and its entries; the newer a table is, the greater are its Seqs.
func made(keep int, s string) store {
	made := store{w: tree.Tree{Bits: keep}}
	words := strings.Fields(s)
	for i, word := range words {
		level, rest, _ := strings.Cut(word, ":")
		made = made.with(int(level[0]-'0'), entries(rest, 100*(len(words)-i)))
	}
	return made
}

// texts are stores of many kinds, with few entries.
var texts = []string{
	"",
	"0:a=1",
	"0:a-",
	"3:b=1,d=1",
	"0:b-,d=new 1:a=1,b=2,d=4",
	"0:a=3,c=3 0:a=2,b=2,c- 0:a=1,b-,c=1,d=1",
	"0:a- 0:a=2 0:a- 1:a=1",
	"0:a=1 1:a-",
	"0:c=1,d=1 0:a=1,b=1",
	"1:a=1,c=1 1:e=1,g-",
	"1:a=1,c=1 2:b=2,d=2 3:c=3,e=3",
	"3:a=1 3:b=1 3:c=1",
	"0:a=9,z=9 0:a=8,z=8 1:a=7,z=7 2:a=6,m=6,z=6 3:a=5,z=5",
	"0:c=4,e=4 0:b=4 1:b=3,d=3 1:f=3,h- 2:a=2,e- 2:g=2,k=2 3:a=1,b=1,c=1 3:d=1,e=1,f=1 3:h=1,i=1",
}

// odd is a store with keys and values at their limits, and with keys of which one is the beginning of the next.
func odd(keep int) store {
	s := store{w: tree.Tree{Bits: keep}}
	s = s.with(0, []api.Entry{{Key: "\x00", Value: long(1024), Seq: api.MaxSeq}, {Key: "a\x00", Del: true, Seq: 9}, {Key: "\xff", Value: "", Seq: 8}})
	s = s.with(0, []api.Entry{{Key: "\xff\xff", Value: "\x00", Seq: 7}})
	s = s.with(1, []api.Entry{{Key: "a", Value: "1", Seq: 6}, {Key: "a\x00", Value: "2", Seq: 5}, {Key: "a\x00\x00", Value: "3", Seq: 4}})
	s = s.with(1, []api.Entry{{Key: long(127), Value: "4", Seq: 3}, {Key: long(128), Value: "5", Seq: 2}})
	return s.with(3, []api.Entry{{Key: "\x7f", Value: "6", Seq: 1}, {Key: "\x80", Value: "7", Seq: 1}})
}

// stores are some of many kinds, with few entries.
func stores(keep int) []store {
	all := []store{odd(keep)}
	for _, s := range texts {
		all = append(all, made(keep, s))
	}
	return all
}

// wide is a row of n entries, every fifth one with Del, whose keys are step apart.
func wide(n, from, step, seq int) []api.Entry {
	var row []api.Entry
	for i := range n {
		e := api.Entry{Key: fmt.Sprintf("k%05d", from+i*step), Value: fmt.Sprint("v", seq, i), Seq: seq + i}
		if i%5 == 4 {
			e.Value, e.Del = "", true
		}
		row = append(row, e)
	}
	return row
}

// great is a store with as many tables as there may be, or less: a fourth of them on each level, those of the level 0 over one another.
func great(keep, tables, count int) store {
	s := store{w: tree.Tree{Bits: keep}}
	var at [4]int
	for i := range tables {
		level := 4 * i / tables
		s.l = append(s.l, api.Table{})
		s.rows = append(s.rows, wide(count, at[level], 2+level, 1000*(tables-i)))
		s.l[i] = modelTable(keep, level, s.rows[i])
		at[level] += 3
		if level > 0 {
			at[level] += count * (2 + level)
		}
	}
	return s
}

// asked are keys, rising: those of the store, those just above and below each, some farther off, and the empty one.
func (s store) asked() []string {
	keys := []string{"", "\x00", "A", "a", "c", "m", "zz", "\xff\xff\xff", long(129), long(300)}
	for _, row := range s.rows {
		for _, e := range row {
			n := len(e.Key) - 1
			keys = append(keys, e.Key, e.Key+"\x00", e.Key[:n], e.Key[:n]+string([]byte{e.Key[n] - 1, 'x'}))
		}
	}
	slices.Sort(keys)
	return slices.Compact(keys)
}

func sameOpening(a, b api.Opening) bool {
	return a.At == b.At && bytes.Equal(a.Leaf, b.Leaf) && slices.Equal(a.Path, b.Path)
}

func samePoint(p, q api.Point) bool {
	return p.Between == q.Between && sameOpening(p.A, q.A) && sameOpening(p.B, q.B)
}

func sameProof(p, q api.Proof) bool {
	return bytes.Equal(p.Summary, q.Summary) && slices.EqualFunc(p.Points, q.Points, samePoint)
}

func sameSpan(r, s api.Span) bool {
	return r.From == s.From && slices.EqualFunc(r.Leaves, s.Leaves, bytes.Equal) && slices.Equal(r.Path, s.Path)
}

func sameSweep(r, s api.Sweep) bool {
	return bytes.Equal(r.Summary, s.Summary) && slices.EqualFunc(r.Spans, s.Spans, sameSpan)
}

func cloneOpening(o api.Opening) api.Opening {
	return api.Opening{At: o.At, Leaf: bytes.Clone(o.Leaf), Path: slices.Clone(o.Path)}
}

func clonePoint(p api.Point) api.Point {
	return api.Point{Between: p.Between, A: cloneOpening(p.A), B: cloneOpening(p.B)}
}

func cloneProof(p api.Proof) api.Proof {
	c := api.Proof{Summary: bytes.Clone(p.Summary)}
	for _, point := range p.Points {
		c.Points = append(c.Points, clonePoint(point))
	}
	return c
}

func cloneSpan(s api.Span) api.Span {
	c := api.Span{From: s.From, Path: slices.Clone(s.Path)}
	for _, leaf := range s.Leaves {
		c.Leaves = append(c.Leaves, bytes.Clone(leaf))
	}
	return c
}

func cloneSweep(s api.Sweep) api.Sweep {
	c := api.Sweep{Summary: bytes.Clone(s.Summary)}
	for _, span := range s.Spans {
		c.Spans = append(c.Spans, cloneSpan(span))
	}
	return c
}

// proof is what Prove tells of a store that fits.
func (s store) proof(t *testing.T, key string) api.Proof {
	t.Helper()
	p, err := Prove(s.w, s.l, s.rows, key)
	if err != api.OK {
		t.Fatalf("Prove of %q: %v", key, err)
	}
	return p
}

// sweep is what ProveSweep tells of a store that fits.
func (s store) sweep(t *testing.T, lo, hi string) api.Sweep {
	t.Helper()
	w, err := ProveSweep(s.w, s.l, s.rows, lo, hi)
	if err != api.OK {
		t.Fatalf("ProveSweep from %q to %q: %v", lo, hi, err)
	}
	return w
}

// held holds Check against the model, and tells what both say.
func held(t *testing.T, w tree.Tree, d api.Digest, key string, p api.Proof, what string) (api.Entry, bool, api.Errno) {
	t.Helper()
	e, is, err := Check(w, d, key, p)
	wantE, wantIs, wantErr := modelCheck(w, d, key, p)
	if e != wantE || is != wantIs || err != wantErr {
		t.Errorf("Check of %q, %d bits, %s: %.90v, %v, %v, not %.90v, %v, %v", key, w.Bits, what, e, is, err, wantE, wantIs, wantErr)
	}
	return e, is, err
}

// heldSweep holds CheckSweep against the model, and tells what both say.
func heldSweep(t *testing.T, w tree.Tree, d api.Digest, lo, hi string, s api.Sweep, what string) ([]api.Entry, api.Errno) {
	t.Helper()
	l, err := CheckSweep(w, d, lo, hi, s)
	want, wantErr := modelCheckSweep(w, d, lo, hi, s)
	if err != wantErr || !slices.Equal(l, want) {
		t.Errorf("CheckSweep from %q to %q, %d bits, %s: %.90v, %v, not %.90v, %v", lo, hi, w.Bits, what, l, err, want, wantErr)
	}
	return l, err
}

// refused asks that p is answered with this error, and nothing else.
func refused(t *testing.T, w tree.Tree, d api.Digest, key string, p api.Proof, want api.Errno, what string) {
	t.Helper()
	if e, is, err := held(t, w, d, key, p, what); err != want || is || e != (api.Entry{}) {
		t.Errorf("Check of %q, %s: %.90v, %v, %v, not %v", key, what, e, is, err, want)
	}
}

// refusedSweep asks that s is answered with this error, and nothing else.
func refusedSweep(t *testing.T, w tree.Tree, d api.Digest, lo, hi string, s api.Sweep, want api.Errno, what string) {
	t.Helper()
	if l, err := heldSweep(t, w, d, lo, hi, s, what); err != want || len(l) > 0 {
		t.Errorf("CheckSweep from %q to %q, %s: %.90v, %v, not %v", lo, hi, what, l, err, want)
	}
}
