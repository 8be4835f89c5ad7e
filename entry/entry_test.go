package entry

import (
	"bytes"
	"encoding/binary"
	"math"
	"slices"
	"sort"
	"strings"
	"testing"

	"marlstone/api"
)

func long(n int) string { return strings.Repeat("k", n) }

// right are entries within all limits, the limits' own edges among them.
func right() []api.Entry {
	return []api.Entry{
		{Key: "a", Value: "v", Seq: 1},
		{Key: "a", Value: "", Seq: 1},
		{Key: "a", Del: true, Seq: 1},
		{Key: "\x00", Value: "\x00", Seq: 127},
		{Key: "\xff\xfe", Value: "\xff", Seq: 128},
		{Key: "k\x00", Del: true, Seq: 300},
		{Key: long(127), Value: long(127), Seq: 16383},
		{Key: long(128), Value: long(128), Seq: 16384},
		{Key: long(128), Value: long(1023), Seq: api.MaxSeq - 1},
		{Key: long(128), Value: long(1024), Seq: api.MaxSeq},
		{Key: long(128), Del: true, Seq: api.MaxSeq},
		{Key: "zweiundvierzig", Value: "käse und 世界", Seq: 42},
	}
}

// wrong are entries of which each has one fault.
func wrong() []api.Entry {
	return []api.Entry{
		{},
		{Key: "", Value: "v", Seq: 1},
		{Key: "", Del: true, Seq: 1},
		{Key: long(129), Value: "v", Seq: 1},
		{Key: long(129), Del: true, Seq: 1},
		{Key: long(100000), Seq: 1},
		{Key: "a", Value: long(1025), Seq: 1},
		{Key: "a", Value: long(100000), Seq: 1},
		{Key: "a", Value: "v", Del: true, Seq: 1},
		{Key: "a", Value: "\x00", Del: true, Seq: 1},
		{Key: "a", Value: long(1024), Del: true, Seq: 1},
		{Key: "a", Value: "v", Seq: 0},
		{Key: "a", Del: true, Seq: 0},
		{Key: "a", Value: "v", Seq: -1},
		{Key: "a", Value: "v", Seq: math.MinInt},
		{Key: "a", Value: "v", Seq: api.MaxSeq + 1},
		{Key: "a", Del: true, Seq: api.MaxSeq + 1},
		{Key: "a", Value: "v", Seq: math.MaxInt},
	}
}

// raw writes an entry's parts as the chapter tells them, whatever they are; the library's uvarint is the number of 1.
func raw(first byte, seq uint64, texts ...string) []byte {
	b := binary.AppendUvarint([]byte{first}, seq)
	for _, s := range texts {
		b = append(binary.AppendUvarint(b, uint64(len(s))), s...)
	}
	return b
}

func rawOf(e api.Entry) []byte {
	if e.Del {
		return raw(1, uint64(e.Seq), e.Key)
	}
	return raw(0, uint64(e.Seq), e.Key, e.Value)
}

// C1: a right entry is within all limits, their edges with it.
func TestRight(t *testing.T) {
	for _, e := range right() {
		if !Right(e) {
			t.Errorf("Right %.20v: false", e)
		}
	}
	for _, e := range wrong() {
		if Right(e) {
			t.Errorf("Right %.20v: true", e)
		}
	}
}

// C1: each length of a key and of a value, and Seq around its edges, with and without Del.
func TestRightAtAllLengths(t *testing.T) {
	for n := range 400 {
		for _, del := range []bool{false, true} {
			e := api.Entry{Key: long(n), Del: del, Seq: 1}
			if Right(e) != (n >= 1 && n <= 128) {
				t.Errorf("a key of %d bytes, Del %v: %v", n, del, Right(e))
			}
		}
	}
	for n := range 2100 {
		for _, del := range []bool{false, true} {
			e := api.Entry{Key: "a", Value: long(n), Del: del, Seq: 1}
			if Right(e) != (n == 0 || n <= 1024 && !del) {
				t.Errorf("a value of %d bytes, Del %v: %v", n, del, Right(e))
			}
		}
	}
	for _, around := range []int{0, 1 << 31, 1 << 32, 1 << 40, 1 << 41} {
		for s := around - 3; s <= around+3; s++ {
			e := api.Entry{Key: "a", Seq: s}
			if Right(e) != (s >= 1 && s <= 1<<40) {
				t.Errorf("Seq %d: %v", s, Right(e))
			}
		}
	}
}

// C1: the chapter's example, and others told byte by byte.
func TestBytesOfWhatIsTold(t *testing.T) {
	for _, w := range []struct {
		e api.Entry
		b string
	}{
		{api.Entry{Key: "a", Value: "v", Seq: 1}, "\x00\x01\x01\x61\x01\x76"},
		{api.Entry{Key: "a", Seq: 1}, "\x00\x01\x01\x61\x00"},
		{api.Entry{Key: "a", Del: true, Seq: 1}, "\x01\x01\x01\x61"},
		{api.Entry{Key: "bc", Value: "xyz", Seq: 300}, "\x00\xac\x02\x02bc\x03xyz"},
		{api.Entry{Key: "bc", Del: true, Seq: 1 << 40}, "\x01\x80\x80\x80\x80\x80\x20\x02bc"},
		{api.Entry{Key: long(128), Value: long(1024), Seq: 128}, "\x00\x80\x01\x80\x01" + long(128) + "\x80\x08" + long(1024)},
	} {
		if b := Bytes(w.e); string(b) != w.b {
			t.Errorf("Bytes of %.20v: %.30x, not %.30x", w.e, b, w.b)
		}
		if e, n, f := Parse([]byte(w.b)); e != w.e || n != len(w.b) || f != api.OK {
			t.Errorf("Parse of %.30x: %.20v, %d, %v", w.b, e, n, f)
		}
	}
}

// C1: what Bytes tells, Parse tells back, whatever stands behind.
func TestThereAndBack(t *testing.T) {
	behind := []string{"", "\x00", "\x01", "\xff", "\x80\x80\x80\x80", "\x00\x01\x01a\x01v", long(2000)}
	for _, e := range right() {
		b := Bytes(e)
		if !bytes.Equal(b, rawOf(e)) {
			t.Errorf("Bytes of %.20v: %.30x, not %.30x", e, b, rawOf(e))
		}
		for _, s := range behind {
			if x, n, f := Parse(append(slices.Clone(b), s...)); x != e || n != len(b) || f != api.OK {
				t.Errorf("Parse of the bytes of %.20v with %.10x behind: %.20v, %d, %v", e, s, x, n, f)
			}
		}
	}
}

// C1: one entry behind another is read one behind another.
func TestParseOneByOne(t *testing.T) {
	var b []byte
	for _, e := range right() {
		b = append(b, Bytes(e)...)
	}
	for _, e := range right() {
		x, n, f := Parse(b)
		if x != e || f != api.OK {
			t.Fatalf("%.20v, %v, not %.20v", x, f, e)
		}
		b = b[n:]
	}
	if len(b) > 0 {
		t.Errorf("%d bytes are left", len(b))
	}
}

// C1: of what is not right there are no bytes, and bytes that say it are no entry's.
func TestWrongEntriesHaveNoBytes(t *testing.T) {
	for _, e := range wrong() {
		if b := Bytes(e); len(b) > 0 {
			t.Errorf("Bytes of %.20v: %.30x", e, b)
		}
		// With Del a value can't be told at all: what is behind the key isn't the entry's.
		if !e.Del || e.Value == "" {
			refused(t, rawOf(e))
		}
	}
}

// refused asks that b begins with no right entry, and that nothing is told beside the error (R5).
func refused(t *testing.T, b []byte) {
	t.Helper()
	if e, n, f := Parse(b); e != (api.Entry{}) || n != 0 || f != api.ErrForm {
		t.Errorf("Parse of %.40x (%d bytes): %.20v, %d, %v", b, len(b), e, n, f)
	}
}

// C1: bytes that break off, at each place.
func TestParseOfWhatBreaksOff(t *testing.T) {
	refused(t, nil)
	for _, e := range right() {
		b := Bytes(e)
		for n := range b {
			refused(t, b[:n])
			// The room behind is not read either.
			refused(t, b[:n:n])
		}
	}
}

// C1: the first byte is 0 or 1.
func TestParseOfOtherFirstBytes(t *testing.T) {
	for c := range 256 {
		b := raw(byte(c), 1, "a", "v")
		want := map[int]api.Entry{0: {Key: "a", Value: "v", Seq: 1}, 1: {Key: "a", Del: true, Seq: 1}}
		ends := map[int]int{0: len(b), 1: len(b) - 2}
		if c > 1 {
			refused(t, b)
			continue
		}
		if e, n, f := Parse(b); e != want[c] || n != ends[c] || f != api.OK {
			t.Errorf("first byte %d: %v, %d, %v", c, e, n, f)
		}
	}
}

// C1: numbers that are not in their shortest form, that are too long, or that say more than there is.
func TestParseOfWrongNumbers(t *testing.T) {
	for _, s := range []string{
		"\x00\x81\x00\x01a\x01v",                                     // Seq 1 in two bytes
		"\x00\x81\x80\x00\x01a\x01v",                                 // in three
		"\x00\x01\x81\x00a\x01v",                                     // the key's length
		"\x00\x01\x01a\x81\x00v",                                     // the value's
		"\x00\x01\x01a\x80\x00",                                      // the value's, of 0
		"\x01\x81\x00\x01a",                                          // with Del
		"\x01\x01\x81\x00a",                                          //
		"\x00\x80\x80\x80\x80\x80\x80\x80\x80\x80\x01\x01a\x01v",     // Seq 2^63
		"\x00\x81\x80\x80\x80\x80\x80\x80\x80\x80\x01\x01a\x01v",     // Seq 2^63 + 1
		"\x00\xff\xff\xff\xff\xff\xff\xff\xff\xff\x01\x01a\x01v",     // Seq 2^64 - 1
		"\x00\x81\x80\x80\x80\x80\x80\x80\x80\x80\x02\x01a\x01v",     // more than 64 bits
		"\x00\x81\x80\x80\x80\x80\x80\x80\x80\x80\x80\x00\x01a\x01v", // eleven bytes
		"\x00\x81\x80\x80\x80\x80\x20\x01a\x01v",                     // Seq 2^40 + 1
		"\x01\x81\x80\x80\x80\x80\x20\x01a",                          // with Del
		"\x00\x00\x01a\x01v",                                         // Seq 0
		"\x01\x00\x01a",                                              // with Del
		"\x00\x01\xff\xff\xff\xff\xff\xff\xff\xff\xff\x01a\x01v",     // a key of 2^64 - 1
		"\x00\x01\x01a\xff\xff\xff\xff\xff\xff\xff\xff\x7fv",         // a value of 2^63 - 1
		"\x00\x01\x01a\x02v",                                         // a value of one byte more than there is
		"\x00\x01\x00\x01v",                                          // a key of 0
		"\x01\x01\x00",                                               // with Del
		"\x00\x01\x81\x01" + long(129) + "\x01v",                     // a key of 129
		"\x01\x01\x81\x01" + long(129),                               // with Del
		"\x00\x01\x01a\x81\x08" + long(1025),                         // a value of 1025
	} {
		refused(t, []byte(s))
	}
}

// C1: each string of up to six bytes out of a few is either no entry's or the bytes of the one that is told.
func TestParseOfAllShortStrings(t *testing.T) {
	letters := []byte{0, 1, 2, 3, 0x7f, 0x80, 0x81, 0xff}
	found := 0
	for n := 1; n <= 6; n++ {
		b := make([]byte, n)
		for c := range 1 << (3 * n) {
			for i := range b {
				b[i] = letters[c>>(3*i)&7]
			}
			e, used, f := Parse(b)
			if f != api.OK {
				refused(t, b)
				continue
			}
			found++
			if !Right(e) || used > n || !bytes.Equal(rawOf(e), b[:used]) {
				t.Fatalf("Parse of %x: %v, %d", b, e, used)
			}
		}
	}
	if found == 0 {
		t.Errorf("no entry among all")
	}
}

// R1, C1: what is handed in stays as it was, its room behind with it; what is answered is the caller's.
func TestBytesAreTheCallers(t *testing.T) {
	e := api.Entry{Key: "key", Value: "value", Seq: 5}
	b := Bytes(e)
	for i := range b {
		b[i] = 0xee
	}
	if !bytes.Equal(Bytes(e), rawOf(e)) {
		t.Errorf("Bytes once more: %x", Bytes(e))
	}
	all := append(rawOf(e), "behind"...)
	was := slices.Clone(all)
	x, _, _ := Parse(all[:len(rawOf(e))])
	if !bytes.Equal(all, was) {
		t.Errorf("Parse wrote: %x", all)
	}
	for i := range all {
		all[i] = 0xee
	}
	if x != e {
		t.Errorf("what Parse told has changed: %v", x)
	}
}

// keys are texts of which some are the beginning of others, by rising.
func keys() []string {
	return []string{"", "\x00", "\x00\x00", "A", "a", "a\x00", "a\x00b", "aa", "ab", "b", "ba", "\x7f", "\x80", "é", "\xff", "\xff\x00", "\xff\xff", "\xff\xff\xff"}
}

// C2: strictly rising, byte by byte.
func TestSorted(t *testing.T) {
	of := func(keys ...string) []api.Entry {
		var l []api.Entry
		for i, k := range keys {
			l = append(l, api.Entry{Key: k, Seq: i + 1})
		}
		return l
	}
	for _, w := range []struct {
		l  []api.Entry
		is bool
	}{
		{nil, true},
		{[]api.Entry{}, true},
		{of("a"), true},
		{of(""), true},
		{of("a", "b"), true},
		{of("b", "a"), false},
		{of("a", "a"), false},
		{of("", ""), false},
		{of("a", "aa"), true},
		{of("aa", "a"), false},
		{of("a", "b", "b"), false},
		{of("a", "a", "b"), false},
		{of("a", "c", "b", "d"), false},
		{of("b", "c", "a"), false},
		{of("a", "b", "c", "c"), false},
		{of("Z", "a"), true},
		{of("b", "aa"), false},
		{of("a\x7f", "a\x80"), true},
		{of("a\xff", "b\x00"), true},
		{of(keys()...), true},
	} {
		if Sorted(w.l) != w.is {
			t.Errorf("Sorted of %v: %v", w.l, !w.is)
		}
	}
	// Neither Seq nor value nor Del tells two entries apart.
	if Sorted([]api.Entry{{Key: "a", Seq: 1}, {Key: "a", Value: "v", Seq: 2}}) || Sorted([]api.Entry{{Key: "a", Seq: 1}, {Key: "a", Del: true, Seq: 2}}) {
		t.Errorf("one key twice is sorted")
	}
	if !Sorted([]api.Entry{{Key: "a", Value: "z", Seq: 9}, {Key: "b", Del: true, Seq: 1}}) {
		t.Errorf("falling Seqs are not sorted")
	}
}

// C2: each pair of keys, by their order among all.
func TestSortedPairs(t *testing.T) {
	for i, a := range keys() {
		for j, b := range keys() {
			if is := Sorted([]api.Entry{{Key: a}, {Key: b}}); is != (i < j) {
				t.Errorf("Sorted of %q, %q: %v", a, b, is)
			}
		}
	}
}

// foldOf is Fold by a map and a sort of keys.
func foldOf(l []api.Entry) []api.Entry {
	last := map[string]api.Entry{}
	for _, e := range l {
		if x, is := last[e.Key]; !is || e.Seq >= x.Seq {
			last[e.Key] = e
		}
	}
	var out []api.Entry
	for _, e := range last {
		out = append(out, e)
	}
	sort.Slice(out, func(i, j int) bool { return out[i].Key < out[j].Key })
	return out
}

func mapOf(l []api.Entry) []api.Entry {
	var out []api.Entry
	for _, e := range foldOf(l) {
		if !e.Del {
			out = append(out, e)
		}
	}
	return out
}

// C2, C3: the chapter's example and others.
func TestFoldAndMapOfWhatIsTold(t *testing.T) {
	for _, w := range []struct{ l, fold, m []api.Entry }{
		{nil, nil, nil},
		{[]api.Entry{}, nil, nil},
		{
			[]api.Entry{{Key: "b", Seq: 1}, {Key: "a", Seq: 2}, {Key: "b", Seq: 3}},
			[]api.Entry{{Key: "a", Seq: 2}, {Key: "b", Seq: 3}},
			[]api.Entry{{Key: "a", Seq: 2}, {Key: "b", Seq: 3}},
		},
		{ // the greatest Seq counts, wherever it stands
			[]api.Entry{{Key: "a", Value: "x", Seq: 3}, {Key: "a", Value: "y", Seq: 1}, {Key: "a", Value: "z", Seq: 2}},
			[]api.Entry{{Key: "a", Value: "x", Seq: 3}},
			[]api.Entry{{Key: "a", Value: "x", Seq: 3}},
		},
		{ // of several with that, the last one
			[]api.Entry{{Key: "a", Value: "x", Seq: 3}, {Key: "b", Seq: 9}, {Key: "a", Value: "y", Seq: 3}, {Key: "a", Value: "z", Seq: 2}},
			[]api.Entry{{Key: "a", Value: "y", Seq: 3}, {Key: "b", Seq: 9}},
			[]api.Entry{{Key: "a", Value: "y", Seq: 3}, {Key: "b", Seq: 9}},
		},
		{ // of two with one Seq the last one counts, with or without Del
			[]api.Entry{{Key: "a", Value: "x", Seq: 3}, {Key: "a", Del: true, Seq: 3}, {Key: "b", Del: true, Seq: 4}, {Key: "b", Value: "y", Seq: 4}},
			[]api.Entry{{Key: "a", Del: true, Seq: 3}, {Key: "b", Value: "y", Seq: 4}},
			[]api.Entry{{Key: "b", Value: "y", Seq: 4}},
		},
		{ // taken away, and written again
			[]api.Entry{{Key: "a", Value: "x", Seq: 1}, {Key: "a", Del: true, Seq: 2}, {Key: "a", Value: "y", Seq: 3}, {Key: "c", Value: "z", Seq: 4}, {Key: "c", Del: true, Seq: 5}},
			[]api.Entry{{Key: "a", Value: "y", Seq: 3}, {Key: "c", Del: true, Seq: 5}},
			[]api.Entry{{Key: "a", Value: "y", Seq: 3}},
		},
		{ // a Del that is older takes nothing away
			[]api.Entry{{Key: "a", Value: "x", Seq: 2}, {Key: "a", Del: true, Seq: 1}},
			[]api.Entry{{Key: "a", Value: "x", Seq: 2}},
			[]api.Entry{{Key: "a", Value: "x", Seq: 2}},
		},
		{ // a Del alone
			[]api.Entry{{Key: "a", Del: true, Seq: 1}},
			[]api.Entry{{Key: "a", Del: true, Seq: 1}},
			nil,
		},
		{ // a beginning of a key is another key, and less
			[]api.Entry{{Key: "ab", Seq: 1}, {Key: "a", Seq: 2}, {Key: "abc", Del: true, Seq: 3}, {Key: "b", Seq: 4}, {Key: "", Seq: 5}},
			[]api.Entry{{Key: "", Seq: 5}, {Key: "a", Seq: 2}, {Key: "ab", Seq: 1}, {Key: "abc", Del: true, Seq: 3}, {Key: "b", Seq: 4}},
			[]api.Entry{{Key: "", Seq: 5}, {Key: "a", Seq: 2}, {Key: "ab", Seq: 1}, {Key: "b", Seq: 4}},
		},
		{ // entries that are not right are folded all the same, their Seqs by size
			[]api.Entry{{Key: "a", Value: "x", Seq: math.MinInt}, {Key: "a", Value: "y", Seq: -1}, {Key: "b", Seq: math.MaxInt}, {Key: "b", Seq: math.MinInt}, {Key: "c", Value: "v", Del: true}},
			[]api.Entry{{Key: "a", Value: "y", Seq: -1}, {Key: "b", Seq: math.MaxInt}, {Key: "c", Value: "v", Del: true}},
			[]api.Entry{{Key: "a", Value: "y", Seq: -1}, {Key: "b", Seq: math.MaxInt}},
		},
	} {
		if f := Fold(w.l); !slices.Equal(f, w.fold) {
			t.Errorf("Fold of %v: %v, not %v", w.l, f, w.fold)
		}
		if m := Map(w.l); !slices.Equal(m, w.m) {
			t.Errorf("Map of %v: %v, not %v", w.l, m, w.m)
		}
	}
}

// drawn is a list that hangs on the seed alone: few keys and few Seqs, so that both come again.
func drawn(seed uint32, n int) []api.Entry {
	next := func(below int) int {
		seed ^= seed << 13
		seed ^= seed >> 17
		seed ^= seed << 5
		return int(seed>>8) % below
	}
	l := make([]api.Entry, n)
	for i := range l {
		l[i] = api.Entry{Key: keys()[next(len(keys()))], Value: strings.Repeat("v", i), Seq: next(6) - 1}
		if next(3) == 0 {
			l[i].Del = true
		}
	}
	return l
}

// C2, C3: many lists, of few entries and of many, against a map.
func TestFoldMapAndFindOfManyLists(t *testing.T) {
	for seed := range uint32(600) {
		l := drawn(seed+1, int(seed%97))
		was := slices.Clone(l)
		f, m := Fold(l), Map(l)
		if !slices.Equal(f, foldOf(l)) || !Sorted(f) {
			t.Fatalf("Fold of list %d: %v", seed, f)
		}
		if !slices.Equal(m, mapOf(l)) || !Sorted(m) {
			t.Fatalf("Map of list %d: %v", seed, m)
		}
		if !slices.Equal(Fold(f), f) || !slices.Equal(Map(f), m) || !slices.Equal(Fold(m), m) {
			t.Fatalf("of list %d: Fold of what is folded is another", seed)
		}
		for _, k := range keys() {
			checkFind(t, l, k)
			checkFind(t, f, k)
		}
		if !slices.Equal(l, was) {
			t.Fatalf("list %d was changed", seed)
		}
	}
}

func checkFind(t *testing.T, l []api.Entry, key string) {
	t.Helper()
	lesser, is := 0, false
	for _, e := range l {
		switch strings.Compare(e.Key, key) {
		case -1:
			lesser++
		case 0:
			is = true
		}
	}
	if n, found := Find(l, key); n != lesser || found != is {
		t.Fatalf("Find of %q in %v: %d, %v, not %d, %v", key, l, n, found, lesser, is)
	}
}

// C2: four writes to one key or two, with each row of Seqs from 1 to 3.
func TestFoldOfAllOrders(t *testing.T) {
	for c := range 81 * 16 {
		var l []api.Entry
		for i := range 4 {
			l = append(l, api.Entry{Key: []string{"a", "b"}[c/81>>i&1], Value: string(rune('0' + i)), Seq: c/[]int{1, 3, 9, 27}[i]%3 + 1})
		}
		if f := Fold(l); !slices.Equal(f, foldOf(l)) {
			t.Errorf("Fold of %v: %v", l, f)
		}
	}
}

// C2: the count is told beside a false, too, and it is of all entries, wherever they stand.
func TestFindOfWhatIsTold(t *testing.T) {
	unsorted := []api.Entry{{Key: "d"}, {Key: "b"}, {Key: "d"}, {Key: "a"}, {Key: "ab"}, {Key: "b"}}
	sorted := []api.Entry{{Key: "a"}, {Key: "ab"}, {Key: "b"}, {Key: "d"}}
	for _, w := range []struct {
		l   []api.Entry
		key string
		n   int
		is  bool
	}{
		{nil, "", 0, false},
		{nil, "a", 0, false},
		{sorted, "", 0, false},
		{sorted, "A", 0, false},
		{sorted, "a", 0, true},
		{sorted, "a\x00", 1, false},
		{sorted, "ab", 1, true},
		{sorted, "aba", 2, false},
		{sorted, "b", 2, true},
		{sorted, "c", 3, false},
		{sorted, "d", 3, true},
		{sorted, "da", 4, false},
		{sorted, "\xff", 4, false},
		{unsorted, "", 0, false},
		{unsorted, "a", 0, true},
		{unsorted, "aa", 1, false},
		{unsorted, "ab", 1, true},
		{unsorted, "b", 2, true},
		{unsorted, "c", 4, false},
		{unsorted, "d", 4, true},
		{unsorted, "e", 6, false},
		{[]api.Entry{{Key: ""}, {Key: ""}}, "", 0, true},
		{[]api.Entry{{Key: ""}, {Key: ""}}, "\x00", 2, false},
		{[]api.Entry{{Key: "a", Del: true}}, "a", 0, true},
	} {
		if n, is := Find(w.l, w.key); n != w.n || is != w.is {
			t.Errorf("Find of %q in %v: %d, %v, not %d, %v", w.key, w.l, n, is, w.n, w.is)
		}
	}
}

// R1, C2, C3: lists that are handed in stay as they were, their room behind with them, and answers are the caller's.
func TestListsAreTheCallers(t *testing.T) {
	row := []api.Entry{{Key: "c", Seq: 1}, {Key: "b", Seq: 2}, {Key: "a", Del: true, Seq: 3}, {Key: "b", Seq: 4}, {Key: "behind", Seq: 5}, {Key: "0", Seq: 6}}
	sorted := []api.Entry{{Key: "a", Seq: 1}, {Key: "b", Seq: 2}, {Key: "c", Seq: 3}, {Key: "d", Seq: 4}, {Key: "e", Seq: 5}, {Key: "f", Seq: 6}}
	for _, all := range [][]api.Entry{row, sorted} {
		was := slices.Clone(all)
		l := all[:4]
		for _, call := range []func([]api.Entry) []api.Entry{Fold, Map} {
			first := call(l)
			want := slices.Clone(first)
			_ = append(first[:len(first):cap(first)], api.Entry{Key: "over"})
			for i := range first {
				first[i] = api.Entry{Key: "over"}
			}
			if !slices.Equal(all, was) {
				t.Fatalf("what was handed in has changed: %v", all)
			}
			if again := call(l); !slices.Equal(again, want) {
				t.Errorf("once more it is %v, not %v", again, want)
			}
		}
		Sorted(l)
		Find(l, "b")
		if !slices.Equal(all, was) {
			t.Errorf("what was handed in has changed: %v", all)
		}
	}
	kept := slices.Clone(sorted)
	f, m := Fold(kept), Map(kept)
	clear(kept)
	if !slices.Equal(f, sorted) || !slices.Equal(m, sorted) {
		t.Errorf("what was told changed with what was handed in: %v, %v", f, m)
	}
}

// C2: lists of many entries, and of many of one key, end in time.
func TestLargeLists(t *testing.T) {
	const n = 200000
	l := make([]api.Entry, n)
	for i := range l {
		l[i] = api.Entry{Key: keys()[i*7%len(keys())], Seq: i * 7919 % n}
	}
	if f := Fold(l); !slices.Equal(f, foldOf(l)) {
		t.Errorf("Fold of many: %v", f)
	}
	for i := range l {
		l[i] = api.Entry{Key: "a", Value: "v", Seq: 1}
	}
	l[n-1].Value = "last"
	if f := Fold(l); len(f) != 1 || f[0].Value != "last" {
		t.Errorf("Fold of one key: %d entries", len(f))
	}
	checkFind(t, l, "b")
}

// C1: whatever the bytes are, Parse tells the one entry that they are the bytes of, or an error alone.
func FuzzParse(f *testing.F) {
	for _, e := range right() {
		f.Add(rawOf(e))
	}
	for _, e := range wrong() {
		f.Add(rawOf(e))
	}
	f.Add([]byte("\x00\x81\x00\x01a\x01v"))
	f.Fuzz(func(t *testing.T, b []byte) {
		was := slices.Clone(b)
		e, n, err := Parse(b)
		if !bytes.Equal(b, was) {
			t.Fatalf("what was handed in has changed")
		}
		if err != api.OK {
			refused(t, b)
			return
		}
		if !Right(e) || n > len(b) || !bytes.Equal(Bytes(e), b[:n]) || !bytes.Equal(rawOf(e), b[:n]) {
			t.Fatalf("%x: %v, %d", b, e, n)
		}
		for k := range n {
			refused(t, b[:k])
		}
	})
}
