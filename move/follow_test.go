package move

import (
	"fmt"
	"maps"
	"math/rand/v2"
	"slices"
	"testing"

	"marlstone/api"
	"marlstone/pick"
	"marlstone/proof"
	"marlstone/summary"
	"marlstone/tree"
)

// What follows: from move to move a store has what it had, and at last nothing is merged any more.

// fits asks that the tables of s are a right list, and what is known of its rows.
func (s store) fits(t *testing.T) {
	t.Helper()
	if !summary.Right(s.l) || !modelRight(s.l) || len(s.rows) != len(s.l) {
		t.Fatalf("%d rows, %v", len(s.rows), s.l)
	}
	for i, row := range s.rows {
		if !modelFit(row) || modelTable(s.w.Bits, s.l[i].Level, row) != s.l[i] {
			t.Fatalf("%v is not the table of %v", s.l[i], row)
		}
	}
}

// flushed is s behind a Flush; it asks that s has what it had, with the pending writes over it.
func (s store) flushed(t *testing.T, pending []api.Entry) store {
	t.Helper()
	next := store{w: s.w, rows: slices.Concat([][]api.Entry{pending}, s.rows)}
	var err api.Errno
	if next.l, err = flushes(t, s.w, s.l, pending, "a store"); err != api.OK {
		t.Fatalf("Flush of %v: %v", pending, err)
	}
	next.fits(t)
	want := map[string]api.Entry{}
	for _, e := range slices.Concat(has(s.rows), pending) {
		want[e.Key] = e
	}
	maps.DeleteFunc(want, func(key string, e api.Entry) bool { return e.Del })
	got := proof.Whole(next.rows)
	for _, e := range got {
		if want[e.Key] != e {
			t.Fatalf("behind Flush of %v: %v, not %v", pending, e, want[e.Key])
		}
	}
	if len(got) != len(want) {
		t.Fatalf("behind Flush of %v: %d keys, not %d", pending, len(got), len(want))
	}
	return next
}

// rowsBehind are the rows of next, which came of s by a merge of these places to a level: those of that level are known by their First.
func (s store) rowsBehind(next []api.Table, places []int, to int, parts [][]api.Entry) [][]api.Entry {
	first := map[string][]api.Entry{}
	var rest [][]api.Entry
	for i, row := range s.rows {
		switch {
		case slices.Contains(places, i):
		case s.l[i].Level == to:
			first[s.l[i].First] = row
		default:
			rest = append(rest, row)
		}
	}
	for _, part := range parts {
		first[part[0].Key] = part
	}
	var rows [][]api.Entry
	for _, x := range next {
		if x.Level == to {
			rows = append(rows, first[x.First])
		} else {
			rows, rest = append(rows, rest[0]), rest[1:]
		}
	}
	return rows
}

// compacted is s behind its next merge, and to which level that went; it asks that s has just what it had, and that the score is less.
func (s store) compacted(t *testing.T) (store, int) {
	t.Helper()
	places, to, is := picks(t, s.l, "a store")
	if !is {
		notCompacted(t, s.w, s.l, nil, api.ErrNone, "a store at rest")
		return s, 0
	}
	next := store{w: s.w}
	var parts [][]api.Entry
	var err api.Errno
	if next.l, parts, err = compacts(t, s.w, s.l, s.rowsAt(places), "a store"); err != api.OK {
		t.Fatalf("Compact of %v: %v", s.l, err)
	}
	next.rows = s.rowsBehind(next.l, places, to, parts)
	next.fits(t)
	if got, want := proof.Whole(next.rows), has(s.rows); !slices.Equal(got, want) {
		t.Fatalf("behind Compact: %.900v, not %.900v", got, want)
	}
	if less, score := modelScore(next.l), modelScore(s.l); less >= score || less != pick.Score(next.l) {
		t.Fatalf("behind Compact the score is %d, and was %d", less, score)
	}
	return next, to
}

// settled is s behind all merges that there are, and how many went to each level.
func (s store) settled(t *testing.T) (store, [4]int) {
	t.Helper()
	var times [4]int
	for {
		next, to := s.compacted(t)
		if to == 0 {
			break
		}
		times[to]++
		s = next
	}
	var of [4]int
	for _, x := range s.l {
		of[x.Level]++
	}
	if of[0] > 4 || of[1] > 8 || of[2] > 32 {
		t.Fatalf("nothing is merged any more of %v", of)
	}
	return s, times
}

// S1, S2: all stores of the tests, of any number of bits, till nothing is merged any more.
func TestStoresSettle(t *testing.T) {
	for _, keep := range []int{-1, 0, 1, 255, 256, 257, 1000} {
		for _, s := range stores(keep) {
			s, _ = s.settled(t)
			s.flushed(t, entries("a-,a01=7,k=1,z-", 9000)).settled(t)
		}
	}
	for _, s := range []store{great(256, 5, 40, 20), great(256, 100, 110, 10), great(256, 0, 200, 3), great(256, 0, 512, 1), great(0, 9, 60, 64)} {
		s.settled(t)
	}
}

// S1: a store that nobody merges, till it has as many tables as there may be.
func TestFlushTillItIsFull(t *testing.T) {
	s := store{w: tree.Tree{Bits: 256}}
	for n := range 512 {
		s = s.flushed(t, entries(fmt.Sprintf("%d=%d,a-,b%d=2", n%7, n, n%5), 3*n+1))
	}
	notFlushed(t, s.w, s.l, entries("a=1", 1), api.ErrLarge, "a full store")
	s, times := s.settled(t)
	if times[1] != 1 || len(s.l) != 1 {
		t.Errorf("%v, %d tables", times, len(s.l))
	}
	s.flushed(t, entries("a=1", 1))
}

// kinds of keys and counts that pending writes may have.
type kind struct {
	name   string
	width  int // of so many keys
	most   int // so many writes at most in one Flush
	rounds int
	dels   int // one of so many is with Del
	wait   int // merged once in so many rounds
}

// S1, S2: stores that are filled and merged, to each level: a map of all writes knows what they have.
func TestFilledStores(t *testing.T) {
	for _, k := range []kind{
		{"few keys", 5, 5, 200, 2, 1},
		{"some keys", 100, 30, 150, 3, 1},
		{"many keys", 6000, 64, 130, 8, 1},
		{"many keys, merged at times", 6000, 64, 130, 8, 20},
		{"one key a time", 300, 1, 300, 4, 1},
		{"most is taken away", 1000, 64, 100, 1, 1},
	} {
		r := rand.New(rand.NewPCG(17, uint64(k.width)))
		s := store{w: tree.Tree{Bits: 256}}
		known := map[string]api.Entry{}
		var times [4]int
		seq := 0
		for round := range k.rounds {
			pending := map[string]api.Entry{}
			for range 1 + r.IntN(k.most) {
				seq++
				e := api.Entry{Key: fmt.Sprintf("%04d", r.IntN(k.width)), Value: fmt.Sprint(seq), Seq: seq}
				if r.IntN(k.dels) == 0 && round < k.rounds-9 {
					e.Value, e.Del = "", true
				}
				pending[e.Key], known[e.Key] = e, e
			}
			var row []api.Entry
			for _, key := range slices.Sorted(maps.Keys(pending)) {
				row = append(row, pending[key])
			}
			s = s.flushed(t, row)
			if round%k.wait == 0 {
				var of [4]int
				s, of = s.settled(t)
				for to, n := range of {
					times[to] += n
				}
			}
		}
		s, _ = s.settled(t)
		maps.DeleteFunc(known, func(key string, e api.Entry) bool { return e.Del })
		got := proof.Whole(s.rows)
		for _, e := range got {
			if known[e.Key] != e {
				t.Fatalf("%s: %v, not %v", k.name, e, known[e.Key])
			}
		}
		if len(got) != len(known) {
			t.Fatalf("%s: %d keys, not %d", k.name, len(got), len(known))
		}
		if times[1] == 0 || k.width == 6000 && (times[2] == 0 || times[3] == 0) {
			t.Errorf("%s: %v", k.name, times)
		}
	}
}

// small are all rows of some of these keys, each with a value or with Del, from seq on; the first one is empty.
func small(seq int, keys ...string) [][]api.Entry {
	rows := [][]api.Entry{nil}
	for i, key := range keys {
		for _, row := range rows {
			put := api.Entry{Key: key, Value: fmt.Sprint(seq), Seq: seq + i}
			del := api.Entry{Key: key, Del: true, Seq: seq + i}
			rows = append(rows, append(slices.Clone(row), put), append(slices.Clone(row), del))
		}
	}
	return rows
}

// S2: all that an input and a table below it may have of three keys, with another below both; to each level.
func TestAllOfThreeKeys(t *testing.T) {
	for to := 1; to <= 3; to++ {
		for _, upper := range small(30, "a", "b", "c")[1:] {
			for _, lower := range small(20, "a", "b", "c") {
				s := store{w: tree.Tree{Bits: 8}}.with(to-1, upper)
				for i := range pastCap(to - 1) {
					s = s.with(to-1, []api.Entry{{Key: fmt.Sprintf("l%02d", i), Seq: 1}})
				}
				if lower != nil {
					s = s.with(to, lower)
				}
				if to < 3 {
					s = s.with(3, entries("a=1,b=1,c=1", 10))
				}
				s.compacted(t)
			}
		}
	}
}

// S1, S2: what is proved of a store by its digest is the same behind a merge, and the digest is another.
func TestDigests(t *testing.T) {
	for _, text := range due {
		s := made(256, text)
		next, _ := s.compacted(t)
		d, err := summary.Digest(256, s.l)
		other, otherErr := summary.Digest(256, next.l)
		if err != api.OK || otherErr != api.OK || d == other {
			t.Errorf("%.90s: %v, %v", text, err, otherErr)
		}
		w, err := proof.ProveSweep(s.w, s.l, s.rows, "", "")
		v, otherErr := proof.ProveSweep(next.w, next.l, next.rows, "", "")
		if err != api.OK || otherErr != api.OK {
			t.Fatalf("%.90s: %v, %v", text, err, otherErr)
		}
		all, err := proof.CheckSweep(s.w, d, "", "", w)
		same, otherErr := proof.CheckSweep(s.w, other, "", "", v)
		if err != api.OK || otherErr != api.OK || !slices.Equal(all, same) || !slices.Equal(all, has(s.rows)) {
			t.Errorf("%.90s: %v, %v, %v, %v", text, all, err, same, otherErr)
		}
	}
}
