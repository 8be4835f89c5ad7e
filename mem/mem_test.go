package mem

import (
	"encoding/hex"
	"fmt"
	"math"
	"math/rand/v2"
	"slices"
	"strings"
	"testing"

	"marlstone/api"
	"marlstone/entry"
)

func long(n int) string { return strings.Repeat("k", n) }

// put is a write of the key, which tells its Seq.
func put(key string, seq int) api.Entry {
	return api.Entry{Key: key, Value: fmt.Sprint("v", seq), Seq: seq}
}

// del is a write that takes the key away.
func del(key string, seq int) api.Entry { return api.Entry{Key: key, Del: true, Seq: seq} }

// with is a mem with these writes.
func with(t *testing.T, writes ...api.Entry) *Mem {
	t.Helper()
	m := New()
	puts(t, m, writes...)
	return m
}

// puts holds that all of these are put.
func puts(t *testing.T, m *Mem, writes ...api.Entry) {
	t.Helper()
	for _, e := range writes {
		if err := m.Put(e); err != api.OK {
			t.Fatalf("Put%.90s: %v", told([]api.Entry{e}), err)
		}
	}
}

// refused holds that e is not put, with that error, and that nothing is changed.
func refused(t *testing.T, m *Mem, e api.Entry, want api.Errno) {
	t.Helper()
	ahead := shown(m)
	if err := m.Put(e); err != want {
		t.Errorf("Put%.90s: %v, not %v", told([]api.Entry{e}), err, want)
	}
	if behind := shown(m); behind != ahead {
		t.Errorf("Put%.90s changed the mem:\n%.600s\n%.600s", told([]api.Entry{e}), ahead, behind)
	}
}

// tells holds a list against what is wanted.
func tells(t *testing.T, what string, l []api.Entry, want ...api.Entry) {
	t.Helper()
	if !slices.Equal(l, want) {
		t.Errorf("%s: %.500s, not %.500s", what, told(l), told(want))
	}
}

// same holds a mem against a model.
func same(t *testing.T, m *Mem, o *model) {
	t.Helper()
	if a, b := shown(m), shown(o); a != b {
		t.Fatalf("%.900s\nnot\n%.900s", a, b)
	}
}

// keys is n unlike keys, rising.
func keys(n int) []string {
	var l []string
	for i := range n {
		l = append(l, fmt.Sprintf("key%03d", i))
	}
	return l
}

// filled is a mem with writes of n keys, of Seq 1 to n.
func filled(t *testing.T, n int) *Mem {
	t.Helper()
	m := New()
	for i, key := range keys(n) {
		puts(t, m, put(key, i+1))
	}
	return m
}

// J1: the chapter's example.
func TestExample(t *testing.T) {
	m := with(t, api.Entry{Key: "a", Seq: 1}, api.Entry{Key: "b", Seq: 2}, api.Entry{Key: "a", Seq: 3})
	tells(t, "All", m.All(), api.Entry{Key: "a", Seq: 3}, api.Entry{Key: "b", Seq: 2})
	if m.Last() != 3 || m.Len() != 2 {
		t.Errorf("Last %d, Len %d", m.Last(), m.Len())
	}
	for _, key := range []string{"a", "b", "c"} {
		refused(t, m, api.Entry{Key: key, Seq: 3}, api.ErrArg)
	}
	puts(t, m, api.Entry{Key: "c", Seq: 4})
}

// J1: a new mem has no writes.
func TestNew(t *testing.T) {
	m := New()
	tells(t, "All", m.All())
	tells(t, "Range", m.Range("a", "b"))
	if e, is := m.Get("a"); e != (api.Entry{}) || is {
		t.Errorf("Get: %v %v", e, is)
	}
	if m.Len() != 0 || m.Last() != 0 {
		t.Errorf("Len %d, Last %d", m.Len(), m.Last())
	}
	same(t, m, &model{})
}

// wrongParts are entries that are not right by their key, their value or Del, whatever their Seq.
func wrongParts() []api.Entry {
	return []api.Entry{
		{},
		{Value: "v"},
		{Del: true},
		{Key: long(129)},
		{Key: long(129), Value: "v"},
		{Key: long(129), Del: true},
		{Key: long(100_000)},
		{Key: "a", Value: long(1025)},
		{Key: "zz", Value: long(1025)},
		{Key: "a", Value: long(100_000)},
		{Key: "a", Value: "v", Del: true},
		{Key: "a", Value: "\x00", Del: true},
		{Key: "zz", Value: long(1024), Del: true},
		{Key: "a", Value: long(1025), Del: true},
		{Key: long(129), Value: long(1025), Del: true},
	}
}

// J1: what is not right is ErrArg, with a Seq below, at and above Last, on a mem without, with and with all the writes that it may have.
func TestPutOfWhatIsNotRight(t *testing.T) {
	cleared := filled(t, 64)
	cleared.Clear()
	for _, m := range []*Mem{New(), with(t, put("b", 4), put("a", 10)), filled(t, 64), cleared} {
		for _, e := range wrongParts() {
			for _, seq := range []int{-1, 0, 1, m.Last() - 1, m.Last(), m.Last() + 1, m.Last() + 2, api.MaxSeq, api.MaxSeq + 1} {
				e.Seq = seq
				refused(t, m, e, api.ErrArg)
			}
		}
		for _, seq := range []int{math.MinInt, -api.MaxSeq, -1, 0, api.MaxSeq + 1, math.MaxInt} {
			for _, key := range []string{"a", "b", "key001", "zz"} {
				refused(t, m, api.Entry{Key: key, Seq: seq}, api.ErrArg)
				refused(t, m, api.Entry{Key: key, Value: "v", Seq: seq}, api.ErrArg)
				refused(t, m, del(key, seq), api.ErrArg)
			}
		}
	}
}

// J1: the edges of what is right are put, with and without Del.
func TestPutOfTheEdges(t *testing.T) {
	seqs := []int{1, 2, 127, 128, 16384, math.MaxInt32, math.MaxInt32 + 1, api.MaxSeq - 1, api.MaxSeq}
	for _, key := range []string{"a", "\x00", "\xff", "\x80\x00", long(127), long(128), strings.Repeat("\xff", 128)} {
		for _, value := range []string{"", "v", "\x00", long(1023), long(1024)} {
			m, o := New(), &model{}
			for _, seq := range seqs {
				e := api.Entry{Key: key, Value: value, Seq: seq}
				puts(t, m, e)
				o.Put(e)
				if got, is := m.Get(key); got != e || !is || m.Last() != seq {
					t.Errorf("%.90s %v, Last %d", told([]api.Entry{got}), is, m.Last())
				}
			}
			same(t, m, o)
		}
		m := New()
		for _, seq := range seqs {
			puts(t, m, del(key, seq))
			if got, is := m.Get(key); got != del(key, seq) || !is || m.Last() != seq {
				t.Errorf("%.90s %v, Last %d", told([]api.Entry{got}), is, m.Last())
			}
		}
	}
}

// J1: a Seq that is not above Last is ErrArg, of a key that is there and of one that is not, also of another entry; one above it need not be the next.
func TestPutSeq(t *testing.T) {
	for _, last := range []int{1, 2, 3, 50, api.MaxSeq - 1, api.MaxSeq} {
		m := with(t, put("b", last))
		for _, seq := range []int{1, 2, 3, 49, 50, last - 1, last, last + 1, last + 2, api.MaxSeq} {
			for _, e := range []api.Entry{put("a", seq), put("b", seq), put("c", seq), del("b", seq), del("c", seq)} {
				if seq <= last || seq > api.MaxSeq {
					refused(t, m, e, api.ErrArg)
					continue
				}
				puts(t, with(t, put("b", last)), e)
			}
		}
	}
	m := with(t, put("a", 5), put("b", 9))
	for _, seq := range []int{1, 4, 5, 6, 7, 8, 9} {
		refused(t, m, put("a", seq), api.ErrArg)
	}
	puts(t, m, put("a", 10), put("a", 11), put("a", 1000))
	refused(t, m, put("a", 999), api.ErrArg)
}

// J1: behind the greatest Seq nothing can be put, also behind Clear.
func TestPutBehindTheLastSeq(t *testing.T) {
	m := with(t, put("a", api.MaxSeq))
	for range 2 {
		for _, seq := range []int{0, 1, api.MaxSeq - 1, api.MaxSeq, api.MaxSeq + 1, math.MaxInt} {
			refused(t, m, put("a", seq), api.ErrArg)
			refused(t, m, put("b", seq), api.ErrArg)
		}
		m.Clear()
	}
}

// J1: 64 keys, in whatever order they come, and no more of them.
func TestFull(t *testing.T) {
	rising := keys(64)
	falling := slices.Clone(rising)
	slices.Reverse(falling)
	mixed := slices.Clone(rising)
	rand.New(rand.NewPCG(1, 2)).Shuffle(64, func(i, j int) { mixed[i], mixed[j] = mixed[j], mixed[i] })
	for _, order := range [][]string{rising, falling, mixed} {
		m, o := New(), &model{}
		for i, key := range order {
			puts(t, m, put(key, i+1))
			o.Put(put(key, i+1))
			if m.Len() != i+1 {
				t.Errorf("Len %d, not %d", m.Len(), i+1)
			}
			same(t, m, o)
		}
		for _, key := range []string{"a", "key", "key000\x00", "key063\x00", "key064", "key", "z"} {
			refused(t, m, put(key, 65), api.ErrLarge)
			refused(t, m, del(key, 65), api.ErrLarge)
			refused(t, m, put(key, api.MaxSeq), api.ErrLarge)
		}
		// A Seq that was refused is not used up.
		puts(t, m, put(order[0], 65))
	}
}

// J1: at 62, 63 and 64 keys: which write there is room for.
func TestRoom(t *testing.T) {
	for n := 62; n <= 64; n++ {
		m := filled(t, n)
		if n < 64 {
			puts(t, m, put("new", 100))
			if _, is := m.Get("new"); !is || m.Len() != n+1 {
				t.Errorf("%d keys, and one: %d", n, m.Len())
			}
			continue
		}
		refused(t, m, put("new", 100), api.ErrLarge)
	}
	m := filled(t, 63)
	puts(t, m, put("new", 100))
	refused(t, m, put("newer", 101), api.ErrLarge)
	puts(t, m, put("new", 101))
	refused(t, m, put("newer", 102), api.ErrLarge)
}

// J1: many writes of a few keys are not many keys.
func TestManyWritesOfFewKeys(t *testing.T) {
	m, o := New(), &model{}
	for seq := 1; seq <= 1000; seq++ {
		e := put(keys(7)[seq*seq%7], seq)
		puts(t, m, e)
		o.Put(e)
	}
	same(t, m, o)
	if m.Len() != 4 || m.Last() != 1000 {
		t.Errorf("Len %d, Last %d", m.Len(), m.Last())
	}
}

// J1: with 64 keys each of them is written again, also taken away, which makes no room.
func TestFullWritesAgain(t *testing.T) {
	m := filled(t, 64)
	seq := 64
	for i, key := range keys(64) {
		seq++
		e := put(key, seq)
		if i%2 == 0 {
			e = del(key, seq)
		}
		puts(t, m, e)
		if got, is := m.Get(key); got != e || !is || m.Len() != 64 || m.Last() != seq {
			t.Errorf("%v %v, Len %d, Last %d", got, is, m.Len(), m.Last())
		}
		refused(t, m, put("new", seq+1), api.ErrLarge)
		refused(t, m, del("new", seq+1), api.ErrLarge)
	}
	same(t, m, &model{writes: append(filledWrites(), againWrites()...), last: 128})
}

// filledWrites are those of filled with 64 keys.
func filledWrites() []api.Entry {
	var l []api.Entry
	for i, key := range keys(64) {
		l = append(l, put(key, i+1))
	}
	return l
}

// againWrites are those behind them, with 64 keys.
func againWrites() []api.Entry {
	var l []api.Entry
	for i, key := range keys(64) {
		e := put(key, 65+i)
		if i%2 == 0 {
			e = del(key, 65+i)
		}
		l = append(l, e)
	}
	return l
}

// J1: ErrArg is told ahead of ErrLarge, where both apply.
func TestOrderOfErrors(t *testing.T) {
	m := filled(t, 64)
	for _, e := range []api.Entry{
		put("new", 64), put("new", 63), put("new", 1), put("new", 0), put("new", -1), put("new", api.MaxSeq+1),
		del("new", 64), {Key: long(129), Seq: 65}, {Key: "", Seq: 65}, {Key: "new", Value: long(1025), Seq: 65},
		{Key: "new", Value: "v", Del: true, Seq: 65},
	} {
		refused(t, m, e, api.ErrArg)
	}
	refused(t, m, put("new", 65), api.ErrLarge)
}

// J1: behind Clear there is room for 64 keys again, the same ones or others.
func TestFullBehindClear(t *testing.T) {
	m := filled(t, 64)
	m.Clear()
	refused(t, m, put("new", 64), api.ErrArg)
	o := &model{last: 64}
	for i := range 64 {
		e := put(fmt.Sprint("other", i%60, i/60), 65+2*i)
		puts(t, m, e)
		o.Put(e)
	}
	same(t, m, o)
	refused(t, m, put(keys(1)[0], 1000), api.ErrLarge)
	m.Clear()
	o.Clear()
	for i, key := range keys(64) {
		puts(t, m, put(key, 2000+i))
		o.Put(put(key, 2000+i))
	}
	same(t, m, o)
	refused(t, m, put("other", 3000), api.ErrLarge)
}

// J1: a write with Del is one like others: it is told, counts as a key, and a write may come behind it.
func TestDeletions(t *testing.T) {
	m := with(t, del("a", 1))
	if e, is := m.Get("a"); e != del("a", 1) || !is || m.Len() != 1 || m.Last() != 1 {
		t.Errorf("%v %v, Len %d, Last %d", e, is, m.Len(), m.Last())
	}
	tells(t, "All", m.All(), del("a", 1))
	puts(t, m, put("b", 2), put("c", 3), del("b", 4))
	tells(t, "All", m.All(), del("a", 1), del("b", 4), put("c", 3))
	tells(t, "Range", m.Range("b", "c"), del("b", 4))
	puts(t, m, put("a", 5), del("c", 6), del("c", 7))
	tells(t, "All", m.All(), put("a", 5), del("b", 4), del("c", 7))
	if m.Len() != 3 || m.Last() != 7 {
		t.Errorf("Len %d, Last %d", m.Len(), m.Last())
	}
	full := New()
	for i, key := range keys(64) {
		puts(t, full, del(key, i+1))
	}
	refused(t, full, put("new", 65), api.ErrLarge)
	refused(t, full, del("new", 65), api.ErrLarge)
	puts(t, full, put("key005", 65))
}

// J1: Get of keys that are there, that are not, and that are written more than once.
func TestGet(t *testing.T) {
	m := with(t, put("b", 1), put("ab", 2), put("b\x00", 3), del("d", 4), put("ab", 5), put("\xff", 6), put("ab", 7), put(long(128), 8))
	for _, e := range []api.Entry{put("b", 1), put("ab", 7), put("b\x00", 3), del("d", 4), put("\xff", 6), put(long(128), 8)} {
		if got, is := m.Get(e.Key); got != e || !is {
			t.Errorf("Get %q: %v %v, not %v", e.Key, got, is, e)
		}
	}
	for _, key := range []string{"", "a", "aa", "ab\x00", "abc", "AB", "b\x00\x00", "b\x01", "c", "d\x00", "\xfe", "\xff\x00", "\x00", "k", long(127), long(129), long(100_000), "käse"} {
		if got, is := m.Get(key); got != (api.Entry{}) || is {
			t.Errorf("Get %.60q: %v %v", key, got, is)
		}
	}
	m.Clear()
	for _, key := range []string{"", "ab", "b", "d"} {
		if got, is := m.Get(key); got != (api.Entry{}) || is {
			t.Errorf("behind Clear: Get %q: %v %v", key, got, is)
		}
	}
}

// J1: lo is with it, hi is not; an empty hi is no bound; of lo at or above hi nothing.
func TestRange(t *testing.T) {
	b, d, dd, f := put("b", 9), put("d", 6), del("dd", 8), put("f", 2)
	m := with(t, put("b", 1), f, put("d", 3), put("dd", 4), d, put("b", 7), dd, b)
	for _, w := range []struct {
		lo, hi string
		want   []api.Entry
	}{
		{"", "", []api.Entry{b, d, dd, f}},
		{"a", "", []api.Entry{b, d, dd, f}},
		{"b", "", []api.Entry{b, d, dd, f}},
		{"b\x00", "", []api.Entry{d, dd, f}},
		{"d", "", []api.Entry{d, dd, f}},
		{"d\x00", "", []api.Entry{dd, f}},
		{"f", "", []api.Entry{f}},
		{"f\x00", "", nil},
		{"g", "", nil},
		{"", "a", nil},
		{"", "b", nil},
		{"", "b\x00", []api.Entry{b}},
		{"", "d", []api.Entry{b}},
		{"", "dc", []api.Entry{b, d}},
		{"", "f", []api.Entry{b, d, dd}},
		{"", "f\x00", []api.Entry{b, d, dd, f}},
		{"", "\xff", []api.Entry{b, d, dd, f}},
		{"a", "g", []api.Entry{b, d, dd, f}},
		{"b", "f", []api.Entry{b, d, dd}},
		{"b", "b\x00", []api.Entry{b}},
		{"b", "b", nil},
		{"bb", "c", nil},
		{"c", "e", []api.Entry{d, dd}},
		{"d", "dd", []api.Entry{d}},
		{"e", "f", nil},
		{"f", "b", nil},
		{"g", "a", nil},
		{"f", "f", nil},
		{"g", "g", nil},
		{"dd", "d", nil},
		{"e", "c", nil},
		{"g", "h", nil},
		{"\xff", "\x00", nil},
		{"\x00", "\xff", []api.Entry{b, d, dd, f}},
		{long(100_000), "", nil},
		{"", long(100_000), []api.Entry{b, d, dd, f}},
		{long(100_000), "a", nil},
	} {
		tells(t, fmt.Sprintf("Range %.20q %.20q", w.lo, w.hi), m.Range(w.lo, w.hi), w.want...)
	}
}

// J1: of all pairs of bounds around the keys of each mem, the empty one with them, what the model tells.
func TestRangeOfAllBounds(t *testing.T) {
	texts := []string{"", "\x00", "a", "a\x00", "a\x00\x00", "a\x01", "aa", "ab", "b", "ba", "\x7f", "\x80", "\xc3\xa4", "\xff", "\xff\xff"}
	for _, n := range []int{0, 1, 2, 3, 5, 8, len(texts) - 1} {
		for seed := range 40 {
			r := rand.New(rand.NewPCG(uint64(n), uint64(seed)))
			m, o := New(), &model{}
			for i := range n {
				e := put(texts[1+r.IntN(len(texts)-1)], i+1)
				puts(t, m, e)
				o.Put(e)
			}
			for _, lo := range texts {
				for _, hi := range texts {
					tells(t, fmt.Sprintf("Range %q %q", lo, hi), m.Range(lo, hi), o.Range(lo, hi)...)
				}
			}
		}
	}
}

// J1: All is Fold of the writes, behind each of them.
func TestAllIsFold(t *testing.T) {
	for seed := range 50 {
		r := rand.New(rand.NewPCG(3, uint64(seed)))
		m := New()
		var writes []api.Entry
		seq := 0
		for range 150 {
			seq += 1 + r.IntN(3)
			e := put(fmt.Sprint(r.IntN(1+seed)), seq)
			if r.IntN(3) == 0 {
				e = del(e.Key, seq)
			}
			puts(t, m, e)
			writes = append(writes, e)
			tells(t, "All", m.All(), entry.Fold(writes)...)
			tells(t, "Range", m.Range("", ""), entry.Fold(writes)...)
			if m.Len() != len(entry.Fold(writes)) || m.Last() != seq {
				t.Errorf("Len %d, Last %d, not %d", m.Len(), m.Last(), seq)
			}
		}
	}
}

// J1: Last is that of the last write that was put, whatever was refused behind it, and Clear leaves it.
func TestLast(t *testing.T) {
	m := New()
	lasts := func(want int) {
		t.Helper()
		if m.Last() != want {
			t.Errorf("Last %d, not %d", m.Last(), want)
		}
	}
	lasts(0)
	m.Clear()
	lasts(0)
	puts(t, m, put("b", 7))
	lasts(7)
	puts(t, m, put("a", 12))
	lasts(12)
	refused(t, m, put("c", 12), api.ErrArg)
	refused(t, m, api.Entry{Key: "c", Value: "v", Del: true, Seq: 20}, api.ErrArg)
	lasts(12)
	puts(t, m, del("b", 13))
	lasts(13)
	m.Clear()
	lasts(13)
	refused(t, m, put("b", 7), api.ErrArg)
	refused(t, m, put("b", 13), api.ErrArg)
	m.Clear()
	lasts(13)
	puts(t, m, put("b", 14))
	lasts(14)
	full := filled(t, 64)
	refused(t, full, put("new", 70), api.ErrLarge)
	if full.Last() != 64 {
		t.Errorf("Last %d", full.Last())
	}
}

// J1: behind Clear there are no writes, and all begins anew but Last; it may be done again, and at first.
func TestClear(t *testing.T) {
	m := New()
	m.Clear()
	same(t, m, &model{})
	puts(t, m, put("a", 3), put("b", 5), del("a", 8))
	for range 2 {
		m.Clear()
		same(t, m, &model{last: 8})
		tells(t, "All", m.All())
		if m.Len() != 0 {
			t.Errorf("Len %d", m.Len())
		}
	}
	puts(t, m, put("c", 9))
	same(t, m, &model{writes: []api.Entry{put("c", 9)}, last: 9})
	tells(t, "All", m.All(), put("c", 9))
}

// J1: chains that were reckoned elsewhere.
func TestChainOfWhatIsTold(t *testing.T) {
	m := New()
	chained := func(want string) {
		t.Helper()
		d := m.Chain()
		if got := hex.EncodeToString(d[:]); got != want {
			t.Errorf("%s, not %s", got, want)
		}
	}
	none := "e3b0c44298fc1c149afbf4c8996fb92427ae41e4649b934ca495991b7852b855"
	chained(none)
	puts(t, m, api.Entry{Key: "a", Seq: 1})
	chained("8d2eef44e85e248c1cc22b4da79a507932e2bffb2f5a55e66d1e34446e1eea18")
	puts(t, m, api.Entry{Key: "b", Seq: 2})
	chained("d4fbfcd76bf2662feb62e012a3e3411e888325223179a98f425e80466adbf36a")
	puts(t, m, api.Entry{Key: "a", Seq: 3})
	chained("04ff52ec370ad0433791328701f5841e90993edd79f99eb703b34afe328b25e7")
	m.Clear()
	chained(none)
	m = New()
	puts(t, m, api.Entry{Key: "a", Value: "v", Seq: 1})
	chained("21e394a1783b0f0d6c1ea70776a5f5282ff7eda8a7f4d0cf878aea3b38a0db8e")
	puts(t, m, del("bc", 300))
	chained("3dd72812f3471d6f7ff17b16783b0c62f86ea208dfd9427a44201cfbec908b2a")
	m.Clear()
	puts(t, m, api.Entry{Key: long(128), Value: long(1024), Seq: api.MaxSeq})
	chained("e2bb003ca5ee9bfb7020c276c3ceff677b98c34334addb5ddb43b965e9490d06")
}

// J1: the chain is of all writes since Clear, also of those that were written over; what asks, and what is refused, leaves it.
func TestChain(t *testing.T) {
	m := New()
	var writes []api.Entry
	for seq := 1; seq <= 200; seq++ {
		e := put(keys(9)[seq*seq%9], seq)
		if seq%4 == 0 {
			e = del(e.Key, seq)
		}
		puts(t, m, e)
		writes = append(writes, e)
		refused(t, m, e, api.ErrArg)
		refused(t, m, put("", seq+1), api.ErrArg)
		if m.Chain() != chainOf(writes...) {
			t.Fatalf("behind %d writes: %x", len(writes), m.Chain())
		}
		if seq%61 == 0 {
			m.Clear()
			writes = nil
			if m.Chain() != chainOf() {
				t.Fatalf("behind Clear: %x", m.Chain())
			}
		}
	}
	full := filled(t, 64)
	refused(t, full, put("new", 65), api.ErrLarge)
	if full.Chain() != chainOf(filledWrites()...) {
		t.Errorf("with 64 keys: %x", full.Chain())
	}
}

// J1: mems that come to the same by unlike writes have unlike chains: other orders, other writes ahead, and each part of an entry.
func TestUnlikeWrites(t *testing.T) {
	rows := [][]api.Entry{
		{},
		{put("a", 1)},
		{put("a", 2)},
		{put("b", 1)},
		{del("a", 1)},
		{{Key: "a", Seq: 1}},
		{{Key: "av", Seq: 1}},
		{{Key: "a", Value: "v", Seq: 1}},
		{put("a", 1), put("a", 2)},
		{put("b", 1), put("a", 2)},
		{put("a", 1), put("b", 2)},
		{put("a", 1), put("a", 2), put("a", 3)},
		{put("a", 2), put("a", 3)},
		{put("a", 3)},
		{put("a", 1), put("a", 3)},
		{del("a", 1), put("a", 3)},
	}
	for i, a := range rows {
		for k, b := range rows {
			if like := with(t, a...).Chain() == with(t, b...).Chain(); like != (i == k) {
				t.Errorf("%s and %s: %v", told(a), told(b), like)
			}
		}
	}
}

// J1: mems with like writes have like chains, whatever else they were asked, and whatever was there ahead of Clear.
func TestLikeWrites(t *testing.T) {
	writes := []api.Entry{put("b", 100), del("a", 101), put("b", 105), put("c", 200), put("a", 201)}
	plain := with(t, writes...)
	cleared := with(t, put("x", 3), put("b", 99))
	cleared.Clear()
	puts(t, cleared, writes...)
	asked := New()
	for _, e := range writes {
		asked.Get(e.Key)
		asked.Put(api.Entry{})
		puts(t, asked, e)
		asked.Put(e)
		asked.Range("", e.Key)
		asked.Chain()
	}
	if a := shown(plain); a != shown(cleared) || a != shown(asked) {
		t.Errorf("%s\n%s\n%s", a, shown(cleared), shown(asked))
	}
	if plain.Chain() != chainOf(writes...) || plain.Chain() != asked.Chain() || plain.Chain() != cleared.Chain() {
		t.Errorf("%x %x %x", plain.Chain(), cleared.Chain(), asked.Chain())
	}
}

// R3: two mems have nothing to do with each other.
func TestApart(t *testing.T) {
	one, two := New(), New()
	puts(t, one, put("a", 5), put("b", 6))
	same(t, two, &model{})
	puts(t, two, put("a", 1), del("c", 2))
	one.Clear()
	same(t, one, &model{last: 6})
	same(t, two, &model{writes: []api.Entry{put("a", 1), del("c", 2)}, last: 2})
	puts(t, one, put("z", 7))
	same(t, two, &model{writes: []api.Entry{put("a", 1), del("c", 2)}, last: 2})
}

// over writes over a list, also over the room behind it.
func over(l []api.Entry) {
	l = l[:cap(l)]
	for i := range l {
		l[i] = api.Entry{Key: "written over", Value: "x", Del: true, Seq: -1}
	}
}

// R1: what comes out is its owner's: written over, it changes nothing within, nor any other answer.
func TestAnswersAreTheCallers(t *testing.T) {
	for _, n := range []int{1, 2, 3, 5, 9, 33, 63, 64} {
		m := filled(t, n)
		ahead := shown(m)
		all, other, some := m.All(), m.All(), m.Range("key001", "key040")
		few := slices.Clone(some)
		over(all)
		tells(t, "Range", some, few...)
		tells(t, "All", other, filledWrites()[:n]...)
		over(some)
		over(m.Range("", "key005"))
		over(m.Range("key003", ""))
		over(m.Range("key003", "key003"))
		over(m.Range("z", ""))
		_ = append(m.Range("", "key001"), put("x", 1), put("y", 2))
		e, _ := m.Get("key000")
		e.Key, e.Seq = "other", 99
		d := m.Chain()
		d[0]++
		if shown(m) != ahead {
			t.Errorf("%d keys:\n%.600s\n%.600s", n, ahead, shown(m))
		}
	}
}

// R1: what is told stays as it was, whatever is put behind it.
func TestAnswersStay(t *testing.T) {
	m := filled(t, 30)
	all, some, none := m.All(), m.Range("key003", "key009"), m.Range("a", "b")
	e, _ := m.Get("key003")
	d := m.Chain()
	for i, key := range keys(30) {
		puts(t, m, del(key, 100+i))
	}
	puts(t, m, put("a", 200), put("key0055", 201))
	m.Clear()
	puts(t, m, put("key003", 202), put("b", 203))
	tells(t, "All", all, filledWrites()[:30]...)
	tells(t, "Range", some, filledWrites()[3:9]...)
	tells(t, "Range", none)
	if e != put("key003", 4) || d != chainOf(filledWrites()[:30]...) {
		t.Errorf("%v, %x", e, d)
	}
}

// R1: what is handed in stays as it was, and may be written over.
func TestHandedInIsNotKept(t *testing.T) {
	m := New()
	l := filledWrites()
	for i := range l {
		puts(t, m, l[i])
		if l[i] != filledWrites()[i] {
			t.Errorf("%v", l[i])
		}
		l[i] = api.Entry{Key: "other", Seq: 1}
	}
	tells(t, "All", m.All(), filledWrites()...)
	if m.Chain() != chainOf(filledWrites()...) {
		t.Errorf("%x", m.Chain())
	}
}

// rowOf does the calls of which a row's digits tell: writes of two keys, one of them with Del, others that are refused, and Clear.
func rowOf(m mems, calls int, length int) string {
	var b strings.Builder
	for range length {
		next := m.Last() + 1
		switch calls % 7 {
		case 0:
			fmt.Fprint(&b, m.Put(put("a", next)), " ")
		case 1:
			fmt.Fprint(&b, m.Put(put("b", next+1)), " ")
		case 2:
			fmt.Fprint(&b, m.Put(del("a", next)), " ")
		case 3:
			fmt.Fprint(&b, m.Put(put("a", next-1)), " ")
		case 4:
			fmt.Fprint(&b, m.Put(put("", next)), " ")
		case 5:
			m.Clear()
		case 6:
			fmt.Fprint(&b, m.Put(put("ab", next)), " ")
		}
		calls /= 7
	}
	return b.String() + shown(m)
}

// J1: all rows of five calls, against the model.
func TestAllShortRows(t *testing.T) {
	for row := range 7 * 7 * 7 * 7 * 7 {
		if a, b := rowOf(New(), row, 5), rowOf(&model{}, row, 5); a != b {
			t.Fatalf("row %d:\n%s\nnot\n%s", row, a, b)
		}
	}
}

// anyEntry is one that is drawn: right mostly, its Seq above last mostly.
func anyEntry(last, keys int, next func(n int) int) api.Entry {
	e := put(fmt.Sprint("k", next(keys)), last+1+next(2))
	switch next(24) {
	case 0, 1, 2:
		e.Del, e.Value = true, ""
	case 3:
		e.Del = true
	case 4:
		e.Seq = last - next(3)
	case 5:
		e.Key = long(next(3) * 64)
	case 6:
		e.Value = strings.Repeat(e.Value, next(300))
	case 7:
		e.Seq = api.MaxSeq + next(2)*(1+next(9))
		if next(200) != 0 {
			e.Seq = -e.Seq
		}
	case 8:
		e.Key = string([]byte{byte(next(256)), byte(next(256))})
	}
	return e
}

// along does count calls that are drawn, of a mem and of a model, and holds each answer against the other.
func along(t *testing.T, keys, count int, next func(n int) int) *Mem {
	m, o := New(), &model{}
	for range count {
		if next(90) == 0 {
			m.Clear()
			o.Clear()
		}
		e := anyEntry(o.Last(), keys, next)
		if a, b := m.Put(e), o.Put(e); a != b {
			t.Fatalf("Put%.90s: %v, not %v", told([]api.Entry{e}), a, b)
		}
		if a, b := m.Chain(), o.Chain(); a != b || m.Len() != o.Len() || m.Last() != o.Last() {
			t.Fatalf("%x, not %x; %d, not %d; %d, not %d", a, b, m.Len(), o.Len(), m.Last(), o.Last())
		}
		lo, hi := fmt.Sprint("k", next(keys)), fmt.Sprint("k", next(keys))
		if a, b := told(m.Range(lo, hi)), told(o.Range(lo, hi)); a != b {
			t.Fatalf("Range %q %q: %.600s, not %.600s", lo, hi, a, b)
		}
		if next(40) == 0 {
			same(t, m, o)
		}
	}
	same(t, m, o)
	return m
}

// J1: long rows of calls, with few and with many keys, against the model.
func TestLongRows(t *testing.T) {
	for seed := range 60 {
		r := rand.New(rand.NewPCG(7, uint64(seed)))
		along(t, []int{1, 3, 20, 63, 64, 66, 90, 500}[seed%8], 250, r.IntN)
	}
}

// R4: the same calls have the same answers.
func TestAgain(t *testing.T) {
	for seed := range 8 {
		var first string
		for range 3 {
			s := shown(along(t, 70, 150, rand.New(rand.NewPCG(9, uint64(seed))).IntN))
			if first == "" {
				first = s
			}
			if s != first {
				t.Errorf("%.600s\n%.600s", first, s)
			}
		}
	}
}

// R2: no call panics, and each answer is the model's, whatever is put and asked.
func FuzzMem(f *testing.F) {
	f.Add("a", "v", false, 1, "", "", []byte("calls"))
	f.Add("", "", true, -1, "b", "a", make([]byte, 200))
	f.Add(long(128), long(1024), false, api.MaxSeq, "\xff", "\x00", []byte{1, 2, 3})
	f.Fuzz(func(t *testing.T, key, value string, del bool, seq int, lo, hi string, b []byte) {
		next := func(n int) int {
			if len(b) == 0 {
				return 0
			}
			x := int(b[0]) % n
			b = b[1:]
			return x
		}
		m, o := New(), &model{}
		for range min(len(b)/3, 100) {
			e := anyEntry(o.Last(), 256, next)
			if x, y := m.Put(e), o.Put(e); x != y {
				t.Fatalf("Put%.90s: %v, not %v", told([]api.Entry{e}), x, y)
			}
		}
		e := api.Entry{Key: key, Value: value, Del: del, Seq: seq}
		if x, y := m.Put(e), o.Put(e); x != y {
			t.Fatalf("Put%.90s: %v, not %v", told([]api.Entry{e}), x, y)
		}
		same(t, m, o)
		if x, y := told(m.Range(lo, hi)), told(o.Range(lo, hi)); x != y {
			t.Fatalf("Range %q %q: %.600s, not %.600s", lo, hi, x, y)
		}
		got, is := m.Get(lo)
		if want, there := o.Get(lo); got != want || is != there {
			t.Fatalf("Get %q: %v %v, not %v %v", lo, got, is, want, there)
		}
	})
}
