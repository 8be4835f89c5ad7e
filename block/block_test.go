package block

import (
	"bytes"
	"encoding/binary"
	"fmt"
	"math"
	"runtime"
	"slices"
	"strings"
	"testing"

	"marlstone/api"
)

const exampleBytes = "\x00\x01a\x00\x01\x01v" + "\x01\x01b\x01\x02" + "\x00\x00\x00\x00" + "\x00\x00\x00\x01"

func example() []api.Entry {
	return []api.Entry{{Key: "a", Value: "v", Seq: 1}, {Key: "ab", Del: true, Seq: 2}}
}

func long(n int) string { return strings.Repeat("k", n) }

// many is a fit list of n entries (fit, if n is 1 to 64), every third one with Del; neighbours' keys have much in common.
func many(n int) []api.Entry {
	var l []api.Entry
	for i := range n {
		e := api.Entry{Key: fmt.Sprintf("key%03d", i), Value: long(i), Seq: 1 + i*i*i}
		if i%3 == 2 {
			e.Value, e.Del = "", true
		}
		l = append(l, e)
	}
	return l
}

// growing is a list of which each key is the beginning of the next.
func growing(n int) []api.Entry {
	var l []api.Entry
	for i := range n {
		l = append(l, api.Entry{Key: long(1 + i), Value: "v", Seq: 1 + i})
	}
	return l
}

// lists are fit lists of many kinds.
func lists() [][]api.Entry {
	all := [][]api.Entry{example()}
	for n := 1; n <= 64; n++ {
		all = append(all, many(n), growing(n))
	}
	return append(all,
		[]api.Entry{{Key: "\x00", Seq: 1}, {Key: "\x00\x00", Seq: 1}, {Key: "\x00\x01", Seq: 1}, {Key: "\xff", Seq: 1}},
		[]api.Entry{{Key: long(128), Value: long(1024), Seq: api.MaxSeq}},
		[]api.Entry{{Key: long(127), Del: true, Seq: api.MaxSeq}, {Key: long(128), Seq: 127}, {Key: "l", Seq: 128}},
		[]api.Entry{{Key: long(127) + "a", Seq: 5}, {Key: long(127) + "b", Seq: 5}, {Key: long(126) + "l", Seq: 5}},
		[]api.Entry{{Key: "käse", Value: "世界", Seq: 3}, {Key: "kåse", Value: "\x80", Seq: 2}},
	)
}

// raw writes one entry's parts as the chapter tells them, whatever they are; the library's uvarint is the number of 1.
func raw(shared uint64, rest string, del byte, seq uint64, value ...string) string {
	b := rawText(binary.AppendUvarint(nil, shared), rest)
	b = binary.AppendUvarint(append(b, del), seq)
	for _, v := range value {
		b = rawText(b, v)
	}
	return string(b)
}

func rawText(b []byte, s string) []byte {
	return append(binary.AppendUvarint(b, uint64(len(s))), s...)
}

// words are four bytes of each number.
func words(v ...uint32) string {
	var b []byte
	for _, x := range v {
		b = binary.BigEndian.AppendUint32(b, x)
	}
	return string(b)
}

// rawOf is the block of l, written by the chapter's words alone, be l fit or not.
func rawOf(l []api.Entry) string { return rawSharing(l, -1, 0) }

// rawSharing is the block of l, but for the one entry at a place, which shares so many bytes.
func rawSharing(l []api.Entry, at, other int) string {
	b, places := "", []uint32{}
	for i, e := range l {
		shared := 0
		if i%8 == 0 {
			places = append(places, uint32(len(b)))
		} else {
			for shared < len(e.Key) && strings.HasPrefix(l[i-1].Key, e.Key[:shared+1]) {
				shared++
			}
		}
		if i == at {
			shared = other
		}
		if e.Del {
			b += raw(uint64(shared), e.Key[shared:], 1, uint64(e.Seq))
		} else {
			b += raw(uint64(shared), e.Key[shared:], 0, uint64(e.Seq), e.Value)
		}
	}
	return b + words(places...) + words(uint32(len(places)))
}

// isFit tells whether l is fit, by the words of the chapters 3 and 4.
func isFit(l []api.Entry) bool {
	for i, e := range l {
		if len(e.Key) < 1 || len(e.Key) > 128 || len(e.Value) > 1024 || e.Del && e.Value != "" || e.Seq < 1 || e.Seq > 1<<40 {
			return false
		}
		if i > 0 && l[i-1].Key >= e.Key {
			return false
		}
	}
	return len(l) >= 1 && len(l) <= 64
}

// rawList is the one list whose block b can be: what is read if nothing is asked but that there are bytes to read.
func rawList(b []byte) (l []api.Entry, ok bool) {
	if len(b) < 4 {
		return nil, false
	}
	n := int(binary.BigEndian.Uint32(b[len(b)-4:]))
	if n > 8 || len(b) < 4+4*n {
		return nil, false
	}
	b = b[:len(b)-4-4*n]
	number := func() uint64 {
		v, k := binary.Uvarint(b)
		ok = ok && k > 0
		b = b[max(k, 0):]
		return v
	}
	text := func() string {
		v := number()
		ok = ok && v <= uint64(len(b))
		v = min(v, uint64(len(b)))
		s := string(b[:v])
		b = b[v:]
		return s
	}
	ahead := ""
	for ok = true; ok && len(b) > 0; {
		shared := number()
		if shared > uint64(len(ahead)) {
			return nil, false
		}
		e := api.Entry{Key: ahead[:shared] + text()}
		if len(b) == 0 || b[0] > 1 {
			return nil, false
		}
		e.Del = b[0] == 1
		b = b[1:]
		e.Seq = int(number())
		if !e.Del {
			e.Value = text()
		}
		l = append(l, e)
		ahead = e.Key
	}
	return l, ok
}

// check holds Parse and Seek of any bytes against what the chapter asks; it tells whether they are a block.
func check(t *testing.T, b []byte) bool {
	t.Helper()
	was := bytes.Clone(b)
	l, err := Parse(b)
	e, is, seekErr := Seek(b, "")
	if !bytes.Equal(b, was) {
		t.Fatalf("Parse or Seek changed %.60x", was)
	}
	want, ok := rawList(b)
	if !ok || !isFit(want) || rawOf(want) != string(b) {
		if err != api.ErrForm || l != nil {
			t.Fatalf("Parse %.60x: %.60v, %v", b, l, err)
		}
		if seekErr != api.ErrForm || is || e != (api.Entry{}) {
			t.Fatalf("Seek in %.60x: %.60v, %v, %v", b, e, is, seekErr)
		}
		return false
	}
	if err != api.OK || !slices.Equal(l, want) {
		t.Fatalf("Parse %.60x: %.60v, %v, not %.60v", b, l, err, want)
	}
	if seekErr != api.OK || !is || e != want[0] {
		t.Fatalf("Seek in %.60x: %.60v, %v, %v", b, e, is, seekErr)
	}
	if again, err := Bytes(l); err != api.OK || !bytes.Equal(again, b) {
		t.Fatalf("Bytes of what %.60x is read as: %.60x, %v", b, again, err)
	}
	return true
}

// refused asks that the bytes are no block.
func refused(t *testing.T, what, b string) {
	t.Helper()
	if check(t, []byte(b)) {
		t.Errorf("%s: taken", what)
	}
}

// D1: the chapter's example.
func TestExample(t *testing.T) {
	b, err := Bytes(example())
	if err != api.OK || string(b) != exampleBytes {
		t.Errorf("Bytes: %x, %v", b, err)
	}
	l, err := Parse([]byte(exampleBytes))
	if err != api.OK || !slices.Equal(l, example()) {
		t.Errorf("Parse: %v, %v", l, err)
	}
}

// D1: a block told byte by byte in which the ninth entry stands whole, the tenth does not.
func TestNinthIsWhole(t *testing.T) {
	var l []api.Entry
	for _, c := range "abcdefghij" {
		l = append(l, api.Entry{Key: "x" + string(c), Del: true, Seq: 1})
	}
	want := "\x00\x02xa\x01\x01" +
		"\x01\x01b\x01\x01" + "\x01\x01c\x01\x01" + "\x01\x01d\x01\x01" + "\x01\x01e\x01\x01" +
		"\x01\x01f\x01\x01" + "\x01\x01g\x01\x01" + "\x01\x01h\x01\x01" +
		"\x00\x02xi\x01\x01" + "\x01\x01j\x01\x01" +
		"\x00\x00\x00\x00" + "\x00\x00\x00\x29" + "\x00\x00\x00\x02"
	if b, err := Bytes(l); err != api.OK || string(b) != want {
		t.Errorf("Bytes: %x, %v, not %x", b, err, want)
	}
	if k, err := Parse([]byte(want)); err != api.OK || !slices.Equal(k, l) {
		t.Errorf("Parse: %v, %v", k, err)
	}
}

// D1: what is written is what the chapter tells, and is read back.
func TestThereAndBack(t *testing.T) {
	for _, l := range lists() {
		b, err := Bytes(l)
		if err != api.OK || string(b) != rawOf(l) {
			t.Errorf("Bytes of %d entries: %.40x, %v, not %.40x", len(l), b, err, rawOf(l))
		}
		if k, err := Parse(b); err != api.OK || !slices.Equal(k, l) {
			t.Errorf("Parse of %d entries: %.60v, %v", len(l), k, err)
		}
	}
}

// D1: how many entries a list may have, and how many places their block ends with.
func TestCounts(t *testing.T) {
	for _, w := range []struct {
		n      int
		places uint32
	}{{0, 0}, {1, 1}, {7, 1}, {8, 1}, {9, 2}, {16, 2}, {17, 3}, {63, 8}, {64, 8}, {65, 0}, {72, 0}, {73, 0}, {1000, 0}} {
		l := many(w.n)
		b, err := Bytes(l)
		if w.places == 0 {
			if err != api.ErrArg || b != nil {
				t.Errorf("Bytes of %d entries: %.40x, %v", w.n, b, err)
			}
			refused(t, fmt.Sprint(w.n, " entries"), rawOf(l))
			continue
		}
		if err != api.OK || string(b[len(b)-4:]) != words(w.places) {
			t.Errorf("Bytes of %d entries: %.40x, %v", w.n, b, err)
		}
		if !check(t, b) {
			t.Errorf("Parse of %d entries: refused", w.n)
		}
	}
	if b, err := Bytes(nil); err != api.ErrArg || b != nil {
		t.Errorf("Bytes of nothing: %x, %v", b, err)
	}
}

// notRight are entries of which each has one fault.
func notRight() []api.Entry {
	return []api.Entry{
		{Key: "", Value: "v", Seq: 1},
		{Key: long(129), Value: "v", Seq: 1},
		{Key: long(129), Del: true, Seq: 1},
		{Key: "key003", Value: long(1025), Seq: 1},
		{Key: "key003", Value: "v", Del: true, Seq: 1},
		{Key: "key003", Value: "v", Seq: 0},
		{Key: "key003", Del: true, Seq: 0},
		{Key: "key003", Value: "v", Seq: -1},
		{Key: "key003", Value: "v", Seq: math.MinInt},
		{Key: "key003", Value: "v", Seq: api.MaxSeq + 1},
		{Key: "key003", Del: true, Seq: math.MaxInt},
	}
}

// D1: a list with an entry that is not right, wherever it stands, has no block.
func TestNotRight(t *testing.T) {
	for _, e := range notRight() {
		for at := range 20 {
			l := many(20)
			l[at] = e
			if b, err := Bytes(l); err != api.ErrArg || b != nil {
				t.Errorf("Bytes with %.40v at %d: %.40x, %v", e, at, b, err)
			}
		}
		if b, err := Bytes([]api.Entry{e}); err != api.ErrArg || b != nil {
			t.Errorf("Bytes of %.40v: %.40x, %v", e, b, err)
		}
		// A value beside Del is not written: that block is one of another list.
		if !e.Del || e.Value == "" {
			refused(t, fmt.Sprintf("the block of %.40v", e), rawOf([]api.Entry{e}))
		}
	}
}

// D1: a list that is not sorted, or has one key twice, has no block, wherever in it that is.
func TestNotSorted(t *testing.T) {
	for at := range 19 {
		turned := many(20)
		turned[at], turned[at+1] = turned[at+1], turned[at]
		twice := many(20)
		twice[at+1].Key = twice[at].Key
		for _, l := range [][]api.Entry{turned, twice} {
			if b, err := Bytes(l); err != api.ErrArg || b != nil {
				t.Errorf("Bytes, not sorted at %d: %.40x, %v", at, b, err)
			}
			refused(t, fmt.Sprint("not sorted at ", at), rawOf(l))
		}
	}
	back := growing(12)
	slices.Reverse(back)
	if b, err := Bytes(back); err != api.ErrArg || b != nil {
		t.Errorf("Bytes, keys shrinking: %.40x, %v", b, err)
	}
	refused(t, "keys shrinking", rawOf(back))
}

// D1: blocks that are cut off, at both ends, and blocks with a byte more.
func TestCutAndMore(t *testing.T) {
	for _, l := range [][]api.Entry{example(), many(1), many(9), many(17), growing(8), growing(20)} {
		b := rawOf(l)
		for n := range b {
			refused(t, fmt.Sprint("cut at ", n), b[:n])
			check(t, []byte(b[len(b)-n:]))
		}
		for c := range 256 {
			refused(t, fmt.Sprint("with ", c, " behind"), b+string([]byte{byte(c)}))
			check(t, append([]byte{byte(c)}, b...))
		}
		refused(t, "two blocks", b+b)
	}
	refused(t, "nothing", "")
	if l, err := Parse(nil); err != api.ErrForm || l != nil {
		t.Errorf("Parse nil: %v, %v", l, err)
	}
}

// D1: each byte turned to each other one, left out, or doubled.
func TestTurned(t *testing.T) {
	taken := 0
	for _, l := range [][]api.Entry{example(), many(1), many(10), growing(9), growing(17)} {
		b := []byte(rawOf(l))
		for i := range b {
			for c := range 256 {
				k := bytes.Clone(b)
				k[i] = byte(c)
				if check(t, k) {
					taken++
				}
			}
			check(t, slices.Delete(bytes.Clone(b), i, i+1))
			check(t, slices.Insert(bytes.Clone(b), i, b[i]))
		}
	}
	// Values and numbers may be others: were none of these taken, nothing would have been asked.
	if taken < 1000 {
		t.Errorf("only %d taken", taken)
	}
}

// D1: all short texts of bytes that may stand in a block.
func TestAllShort(t *testing.T) {
	foot := words(0) + words(1)
	var walk func(b string, n int)
	walk = func(b string, n int) {
		check(t, []byte(b+foot))
		check(t, []byte(b))
		if n == 0 {
			return
		}
		for _, c := range "\x00\x01\x02a" {
			walk(b+string(c), n-1)
		}
	}
	walk("", 7)
}

// D1: SHARED is all that two keys have in common, no less and no more.
func TestShared(t *testing.T) {
	first := raw(0, "abc", 1, 1)
	foot := words(0) + words(1)
	if !check(t, []byte(first+raw(2, "d", 1, 1)+foot)) {
		t.Error("all in common: refused")
	}
	if !check(t, []byte(first+raw(3, "d", 1, 1)+foot)) {
		t.Error("the whole key ahead: refused")
	}
	refused(t, "1 of 2", first+raw(1, "bd", 1, 1)+foot)
	refused(t, "0 of 2", first+raw(0, "abd", 1, 1)+foot)
	refused(t, "2 of 3", first+raw(2, "cd", 1, 1)+foot)
	refused(t, "nothing behind what is shared", first+raw(3, "", 1, 1)+foot)
	refused(t, "a lesser key", first+raw(2, "", 1, 1)+foot)
	for _, n := range []uint64{4, 5, 127, 128, 1 << 31, 1 << 32, 1<<63 - 1, 1 << 63, 1<<63 + 1, math.MaxUint64 - 1, math.MaxUint64} {
		refused(t, fmt.Sprint(n, " of a key of 3"), first+raw(n, "d", 1, 1)+foot)
	}
	refused(t, "above 0 for the first", raw(1, "a", 1, 1)+foot)
	refused(t, "above 0 for the first, with nothing behind", raw(1, "", 1, 1)+foot)
}

// D1: every eighth entry shares nothing, each other one all that it can.
func TestEighthsShareNothing(t *testing.T) {
	l := many(18)
	for at := range l {
		want := 5
		switch {
		case at%8 == 0:
			want = 0
		case at == 10: // behind key009
			want = 4
		}
		for shared := range 7 {
			if is := check(t, []byte(rawSharing(l, at, shared))); is != (shared == want) {
				t.Errorf("the entry at %d shares %d: taken is %v", at, shared, is)
			}
		}
	}
}

// D1: the places are those of the eighths, and their number is that of the eighths.
func TestPlaces(t *testing.T) {
	l := many(20)
	b := rawOf(l)
	body := b[:len(b)-16]
	second := uint32(strings.Index(body, "\x00\x06key008"))
	third := uint32(strings.Index(body, "\x00\x06key016"))
	if !check(t, []byte(body+words(0, second, third, 3))) {
		t.Fatal("the right places: refused")
	}
	for _, w := range [][]uint32{
		{}, {0}, {3}, {math.MaxUint32},
		{second, third, 2}, {0, second, 2}, {0, third, 2}, {0, 1},
		{0, second, third, 0}, {0, second, third, 1}, {0, second, third, 2}, {0, second, third, 4},
		{0, second, third, math.MaxUint32}, {0, second, third, 1 << 30}, {0, second, third, 1<<30 - 1}, {0, second, third, 1 << 31},
		{0, third, second, 3}, {0, second, second, 3}, {1, second, third, 3}, {0, second + 1, third, 3}, {0, second - 1, third, 3},
		{0, second, third + 1, 3}, {0, second, uint32(len(body)), 3}, {0, second, math.MaxUint32, 3}, {math.MaxUint32, second, third, 3},
		{0, second, third, uint32(len(body)), 4}, {0, 0, second, third, 4}, {0, second, third, 0, 4}, {0, second, third, third, 4},
		{3, 0, second, third}, {3, 0, second, third, 3}, {0, second, third, 3, 3}, {0, second, third, 3, 0},
	} {
		refused(t, fmt.Sprint("places ", w), body+words(w...))
	}
	for n := range uint32(200) {
		if n != 3 {
			refused(t, fmt.Sprint("number ", n), body+words(0, second, third, n))
		}
	}
	refused(t, "no entries, no places", words(0))
	refused(t, "no entries, one place", words(0, 1))
	refused(t, "no entries, two places", words(0, 0, 2))
}

// D1: parts of an entry that may not be.
func TestWrongParts(t *testing.T) {
	foot := words(0) + words(1)
	for c := 2; c < 256; c++ {
		refused(t, fmt.Sprint("a Del of ", c), raw(0, "a", byte(c), 1)+foot)
		refused(t, fmt.Sprint("a Del of ", c), raw(0, "a", byte(c), 1, "v")+foot)
	}
	for _, s := range []uint64{0, 1<<40 + 1, 1<<63 - 1, 1 << 63, 1<<63 + 1, 1<<64 - 1} {
		refused(t, fmt.Sprint("Seq ", s), raw(0, "a", 1, s)+foot)
		refused(t, fmt.Sprint("Seq ", s), raw(0, "a", 0, s, "v")+foot)
	}
	refused(t, "no key", raw(0, "", 0, 1, "v")+foot)
	refused(t, "a key of 129", raw(0, long(129), 0, 1, "v")+foot)
	refused(t, "a key of 129, by what is shared", raw(0, long(128), 0, 1, "v")+raw(128, "a", 0, 1, "v")+foot)
	refused(t, "a value of 1025", raw(0, "a", 0, 1, long(1025))+foot)
	refused(t, "a value beside Del", raw(0, "a", 1, 1, "v")+foot)
	refused(t, "no value", raw(0, "a", 0, 1)+foot)
	refused(t, "a SHARED of two bytes", "\x80\x00\x01a\x01\x01"+foot)
	refused(t, "a length of two bytes", "\x00\x81\x00a\x01\x01"+foot)
	refused(t, "a Seq of two bytes", "\x00\x01a\x01\x81\x00"+foot)
	refused(t, "a value's length of two bytes", "\x00\x01a\x00\x01\x80\x00"+foot)
	refused(t, "a text that goes on into the foot", "\x00\x01a\x00\x01\x08"+foot)
	refused(t, "a length above all ints", "\x00\xff\xff\xff\xff\xff\xff\xff\xff\xff\x01"+foot)
	if !check(t, []byte(raw(0, "a", 1, 1)+foot)) || !check(t, []byte(raw(0, long(128), 0, 1<<40, long(1024))+foot)) {
		t.Error("what may be is refused")
	}
}

// R2: bytes that would be a list of very many entries, or of very long keys, are given up early.
func TestMuchIsRefused(t *testing.T) {
	entries := strings.Repeat(raw(0, "k", 1, 1)+raw(0, "l", 1, 1), 200000)
	keys := raw(0, long(3000000), 1, 1) + strings.Repeat(raw(3000000, "k", 1, 1), 7)
	for _, s := range []string{entries, keys} {
		b := []byte(s + words(0, 1))
		var was, is runtime.MemStats
		runtime.ReadMemStats(&was)
		if l, err := Parse(b); err != api.ErrForm || l != nil {
			t.Errorf("Parse: %d entries, %v", len(l), err)
		}
		runtime.ReadMemStats(&is)
		if n := is.TotalAlloc - was.TotalAlloc; n > 10000000 {
			t.Errorf("Parse of %d bytes took %d", len(b), n)
		}
	}
}

// D2: the first entry that is not less, by a look at all of them.
func TestSeek(t *testing.T) {
	for _, l := range lists() {
		b, _ := Bytes(l)
		keys := []string{"", "\x00", "a", "b", "k", "key", "l", "z", "\xff", "\xff\xff\xff", long(128), long(129), long(5000)}
		for _, e := range l {
			keys = append(keys, e.Key, e.Key+"\x00", e.Key+"\xff", e.Key[:len(e.Key)-1], e.Key[:len(e.Key)-1]+"\x00")
		}
		for _, key := range keys {
			at := slices.IndexFunc(l, func(e api.Entry) bool { return e.Key >= key })
			e, is, err := Seek(b, key)
			if at < 0 && (err != api.OK || is || e != (api.Entry{})) {
				t.Errorf("Seek %.20q behind all: %.60v, %v, %v", key, e, is, err)
			}
			if at >= 0 && (err != api.OK || !is || e != l[at]) {
				t.Errorf("Seek %.20q: %.60v, %v, %v, not %.60v", key, e, is, err, l[at])
			}
		}
	}
}

// D2: the chapter's block, told key by key.
func TestSeekInExample(t *testing.T) {
	l := example()
	for _, w := range []struct {
		key string
		e   api.Entry
		is  bool
	}{
		{"", l[0], true}, {"A", l[0], true}, {"a", l[0], true}, {"a\x00", l[1], true}, {"aa", l[1], true},
		{"ab", l[1], true}, {"ab\x00", api.Entry{}, false}, {"b", api.Entry{}, false}, {long(200), api.Entry{}, false},
	} {
		if e, is, err := Seek([]byte(exampleBytes), w.key); e != w.e || is != w.is || err != api.OK {
			t.Errorf("Seek %q: %v, %v, %v", w.key, e, is, err)
		}
	}
}

// D2: bytes that are no block are ErrForm for each key, be the fault ahead of what is sought or behind.
func TestSeekInNoBlock(t *testing.T) {
	b := rawOf(many(20))
	faults := []string{"", "\x00", b[1:], b[:len(b)-1], b + "\x00", words(0), words(0, 1), strings.Replace(b, "key008", "kex008", 1), strings.Replace(b, "key016", "kex016", 1)}
	for _, f := range faults {
		for _, key := range []string{"", "a", "key000", "key010", "key019", "z"} {
			if e, is, err := Seek([]byte(f), key); err != api.ErrForm || is || e != (api.Entry{}) {
				t.Errorf("Seek %q in %.40x: %v, %v, %v", key, f, e, is, err)
			}
		}
	}
	if e, is, err := Seek(nil, ""); err != api.ErrForm || is || e != (api.Entry{}) {
		t.Errorf("Seek in nil: %v, %v, %v", e, is, err)
	}
}

// R1: what is handed in stays as it was, its spare room with it, and what is answered is nobody else's.
func TestNothingIsShared(t *testing.T) {
	room := append(many(30), api.Entry{Key: "spare", Seq: 7})
	b, _ := Bytes(room[:30])
	if !slices.Equal(room[:30], many(30)) || room[30].Key != "spare" {
		t.Error("Bytes changed its list")
	}
	other, _ := Bytes(room[:30])
	clear(room)
	if string(b) != rawOf(many(30)) {
		t.Error("a block hangs on its list")
	}
	clear(b)
	if string(other) != rawOf(many(30)) {
		t.Error("two blocks hang together")
	}

	wide := []byte(rawOf(many(30)) + "spare")
	n := len(wide) - 5
	l, _ := Parse(wide[:n])
	again, _ := Parse(wide[:n])
	e, _, _ := Seek(wide[:n], "key007")
	if string(wide) != rawOf(many(30))+"spare" {
		t.Error("Parse or Seek changed its bytes")
	}
	for i := range wide {
		wide[i] = 0xaa
	}
	if !slices.Equal(l, many(30)) || e != many(30)[7] {
		t.Error("what is read hangs on its bytes")
	}
	clear(l)
	if !slices.Equal(again, many(30)) {
		t.Error("two lists hang together")
	}
}

// R4: asked again, the same is answered.
func TestAgain(t *testing.T) {
	for range 3 {
		if b, err := Bytes(many(64)); err != api.OK || string(b) != rawOf(many(64)) {
			t.Errorf("Bytes: %v", err)
		}
		refused(t, "no block", "\x00")
		if !check(t, []byte(exampleBytes)) {
			t.Error("the example: refused")
		}
	}
}

// D1, D2: any bytes are the block of the list that they are read as, or of none.
func FuzzParse(f *testing.F) {
	for _, l := range [][]api.Entry{example(), many(1), many(9), many(64), many(65), growing(17)} {
		f.Add([]byte(rawOf(l)), "key003")
	}
	f.Add([]byte{}, "")
	f.Fuzz(func(t *testing.T, b []byte, key string) {
		if !check(t, b) {
			return
		}
		l, _ := Parse(b)
		at := slices.IndexFunc(l, func(e api.Entry) bool { return e.Key >= key })
		e, is, err := Seek(b, key)
		if err != api.OK || is != (at >= 0) || is && e != l[at] {
			t.Errorf("Seek %q: %v, %v, %v", key, e, is, err)
		}
	})
}
