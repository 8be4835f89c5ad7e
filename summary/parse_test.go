package summary

import (
	"bytes"
	"fmt"
	"math"
	"math/rand/v2"
	"runtime"
	"slices"
	"strings"
	"testing"

	"marlstone/api"
)

// check holds Parse of any bytes against the model; it tells whether they are a list's.
func check(t *testing.T, summary string) bool {
	t.Helper()
	b := []byte(summary)
	l, err := Parse(b)
	if string(b) != summary {
		t.Fatalf("Parse changed %.90x", summary)
	}
	want, is := modelParse(summary)
	if !is {
		if err != api.ErrForm || len(l) > 0 {
			t.Fatalf("Parse of %.90x: %.90v, %v", summary, l, err)
		}
		return false
	}
	if err != api.OK || !slices.Equal(l, want) {
		t.Fatalf("Parse of %.90x: %.90v, %v, not %.90v", summary, l, err, want)
	}
	if again, err := Bytes(l); err != api.OK || string(again) != summary {
		t.Fatalf("Bytes of what %.90x is read as: %.90x, %v", summary, again, err)
	}
	return true
}

// taken asks that the bytes are a list's.
func taken(t *testing.T, what, summary string) {
	t.Helper()
	if !check(t, summary) {
		t.Errorf("%s: refused", what)
	}
}

// refused asks that the bytes are no list's.
func refused(t *testing.T, what, summary string) {
	t.Helper()
	if check(t, summary) {
		t.Errorf("%s: taken", what)
	}
}

// some are right lists with tables, of which the bytes are turned in many ways.
func some() [][]api.Table {
	return [][]api.Table{
		tables("0:a-k 1:b-b 1:c-f"), tables("3:a-a"), tables("0:a-b 0:a-b"),
		one(1, 64, "\x00", "\x00\x00"), one(2, 1, long(128), long(128)), many(5),
	}
}

// N1: what is written is read back.
func TestThereAndBack(t *testing.T) {
	for _, l := range rights() {
		b, err := Bytes(l)
		if err != api.OK {
			t.Fatalf("Bytes of %.90v: %v", l, err)
		}
		if k, err := Parse(b); err != api.OK || !slices.Equal(k, l) {
			t.Errorf("Parse of %d tables: %.90v, %v", len(l), k, err)
		}
		taken(t, fmt.Sprint(len(l), " tables"), string(b))
	}
}

// N1: what would be the bytes of a list that is not right is none's.
func TestParseOfWhatIsNotRight(t *testing.T) {
	for _, l := range wrongs() {
		refused(t, fmt.Sprintf("%.90v", l), rawBytes(l))
	}
}

// N1: nothing is no list's; the byte 00 is that of no tables.
func TestParseOfNothing(t *testing.T) {
	for _, b := range [][]byte{nil, {}} {
		if l, err := Parse(b); err != api.ErrForm || len(l) > 0 {
			t.Errorf("Parse of %#v: %v, %v", b, l, err)
		}
	}
	taken(t, "no tables", "\x00")
	for c := 1; c < 256; c++ {
		refused(t, fmt.Sprintf("%02x alone", c), string([]byte{byte(c)}))
	}
	refused(t, "00 twice", "\x00\x00")
	refused(t, "a summary's text", "\x03\x00")
}

// N1: no beginning of a summary is one, no end of it, and no summary with bytes behind, or ahead.
func TestCutAndMore(t *testing.T) {
	for _, l := range append(some(), many(20)) {
		b := rawBytes(l)
		for n := range b {
			refused(t, fmt.Sprint("cut at ", n), b[:n])
			refused(t, fmt.Sprint("without the byte at ", n), b[:n]+b[n+1:])
			check(t, b[n+1:])
			check(t, b[:n]+b[n:n+1]+b[n:])
		}
		for c := range 256 {
			x := string([]byte{byte(c)})
			refused(t, fmt.Sprint("with ", c, " behind"), b+x)
			refused(t, fmt.Sprint("with ", c, " ahead"), x+b)
		}
		for n := 1; n <= 60; n++ {
			refused(t, fmt.Sprint("with ", n, " bytes 00 behind"), b+strings.Repeat("\x00", n))
		}
		refused(t, "two summaries", b+b)
		refused(t, "a table behind", b+rawTable(one(3, 1, "z", "z")[0]))
	}
	b := rawBytes(many(512))
	for n := 0; n < len(b); n += 61 {
		refused(t, fmt.Sprint("many, cut at ", n), b[:n])
	}
	refused(t, "many, without the last byte", b[:len(b)-1])
	refused(t, "many, with a byte more", b+"\x00")
}

// N1: each byte turned to each other one: no list's, or that of another list.
func TestEachByteTurned(t *testing.T) {
	others := 0
	for _, l := range some() {
		b := []byte(rawBytes(l))
		for i := range b {
			for c := range 256 {
				k := bytes.Clone(b)
				k[i] = byte(c)
				if !check(t, string(k)) || byte(c) == b[i] {
					continue
				}
				others++
				if m, _ := Parse(k); slices.Equal(m, l) {
					t.Errorf("the byte at %d turned to %02x: the same list", i, c)
				}
			}
		}
	}
	// Roots may be any: were none of these taken, nothing would have been asked.
	if others < 1000 {
		t.Errorf("only %d taken", others)
	}
}

// N1: how many tables there are is told: a number that is greater than they are, or less, is that of no list.
func TestHowMany(t *testing.T) {
	for _, n := range []int{0, 1, 2, 127, 128, 300, 512} {
		b := ""
		for _, x := range many(n) {
			b += rawTable(x)
		}
		right := uint64(n)
		numbers := []uint64{1 << 16, 1<<16 + right, 1 << 32, 1<<32 + right, 1<<63 - 1, 1 << 63, 1<<63 + right, math.MaxUint64 - 1, math.MaxUint64}
		for k := range uint64(20) {
			numbers = append(numbers, k, 120+k, 250+k, 500+k, right+k, right-min(k, right))
		}
		for _, k := range numbers {
			if check(t, rawNumber(k)+b) != (k == right) {
				t.Errorf("%d tables, %d told", n, k)
			}
		}
		for _, s := range []string{"", "\x80", "\xff", longer(right), longer(right)[:len(longer(right))-1], strings.Repeat("\x80", 9) + "\x01", strings.Repeat("\x80", 10) + "\x01", strings.Repeat("\xff", 9) + "\x02", strings.Repeat("\xff", 20)} {
			refused(t, fmt.Sprintf("%d tables, the number written %x", n, s), s+b)
		}
	}
	// More than there may be, told and there.
	for _, n := range []int{513, 514, 1024, 5000} {
		refused(t, fmt.Sprint(n, " tables"), rawBytes(many(n)))
	}
}

// parts are those of the bytes of one table.
type parts [5]string

// partsOf is the parts of the table x: its numbers, its root and its texts.
func partsOf(x api.Table) parts {
	return parts{rawNumber(uint64(x.Level)), rawNumber(uint64(x.Count)), string(x.Root[:]), rawText(x.First), rawText(x.Last)}
}

// with is the bytes of l, of which one part of one table is another one.
func with(l []api.Table, at, part int, s string) string {
	b := rawNumber(uint64(len(l)))
	for i, x := range l {
		p := partsOf(x)
		if i == at {
			p[part] = s
		}
		b += strings.Join(p[:], "")
	}
	return b
}

// N1: a number has one way to be written, and so has a text.
func TestLongerNumbers(t *testing.T) {
	l := tables("0:a-k 1:b-b 1:c-f")
	refused(t, "of the tables", longer(3)+rawBytes(l)[1:])
	taken(t, "of the tables, the shorter way", rawNumber(3)+rawBytes(l)[1:])
	for at, x := range l {
		for part, s := range map[int][2]string{
			0: {longer(uint64(x.Level)), rawNumber(uint64(x.Level))},
			1: {longer(uint64(x.Count)), rawNumber(uint64(x.Count))},
			3: {longer(uint64(len(x.First))) + x.First, rawText(x.First)},
			4: {longer(uint64(len(x.Last))) + x.Last, rawText(x.Last)},
		} {
			refused(t, fmt.Sprintf("part %d of the table %d", part, at), with(l, at, part, s[0]))
			taken(t, fmt.Sprintf("part %d of the table %d, the shorter way", part, at), with(l, at, part, s[1]))
			for _, s := range []string{"\x80", "\xff\xff", strings.Repeat("\x80", 9) + "\x01", strings.Repeat("\x80", 10) + "\x01", strings.Repeat("\xff", 9) + "\x02", strings.Repeat("\xff", 9) + "\x01"} {
				refused(t, fmt.Sprintf("part %d of the table %d written %x", part, at, s), with(l, at, part, s))
			}
		}
	}
	// A length that takes two bytes.
	k := one(0, 1, long(128), long(128))
	taken(t, "128", with(k, 0, 3, "\x80\x01"+long(128)))
	refused(t, "128 with a byte more", with(k, 0, 3, "\x80\x81\x00"+long(128)))
}

// N1: numbers that would be a right one, if but some of their bits were read.
func TestGreatNumbers(t *testing.T) {
	l := tables("0:a-k 1:b-c 2:c-f")
	for at, x := range l {
		for part, right := range []int{x.Level, x.Count} {
			for n := range uint64(300) {
				check(t, with(l, at, part, rawNumber(n)))
			}
			for _, more := range []uint64{1 << 8, 1 << 16, 1 << 31, 1 << 32, 1 << 62, 1 << 63, 3 << 62} {
				refused(t, fmt.Sprint(more, " more"), with(l, at, part, rawNumber(more+uint64(right))))
			}
			refused(t, "the greatest", with(l, at, part, rawNumber(math.MaxUint64)))
		}
		for part, text := range map[int]string{3: x.First, 4: x.Last} {
			for _, n := range []uint64{0, 2, 3, 1 << 8, 1<<8 + 1, 1 << 31, 1 << 32, 1<<32 + 1, 1<<63 - 1, 1 << 63, 1<<63 + 1, math.MaxUint64} {
				refused(t, fmt.Sprint("a length of ", n), with(l, at, part, rawNumber(n)+text))
			}
			taken(t, "the right one", with(l, at, part, rawNumber(1)+text))
		}
	}
}

// N1: a root has 32 bytes, whichever they are.
func TestRoots(t *testing.T) {
	l := tables("0:a-k 1:b-c 2:c-f")
	for at, x := range l {
		for n := range 70 {
			if check(t, with(l, at, 2, strings.Repeat("\xfe", n))) != (n == 32) {
				t.Errorf("a root of %d bytes", n)
			}
		}
		for c := range 256 {
			taken(t, fmt.Sprintf("a root of bytes %02x", c), with(l, at, 2, strings.Repeat(string([]byte{byte(c)}), 32)))
		}
		refused(t, "with its length", with(l, at, 2, rawText(string(x.Root[:]))))
	}
}

// N1: keys of 0 to 300 bytes, as they stand in the bytes.
func TestParseOfKeys(t *testing.T) {
	for n := range 300 {
		for part := 3; part <= 4; part++ {
			check(t, with(one(0, 2, "a", "z"), 0, part, rawText(long(n))))
			check(t, with(one(0, 1, "k", "k"), 0, part, rawText(long(n))))
		}
		if check(t, rawBytes(one(0, 1, long(n), long(n)))) != (n >= 1 && n <= 128) {
			t.Errorf("a key of %d bytes", n)
		}
	}
}

// N1: the parts of a table in another order, or one of them left out, or twice.
func TestPartsOutOfOrder(t *testing.T) {
	x := one(2, 9, "ab", "cd")[0]
	// A root of which no part is read as a text's length that is right.
	copy(x.Root[:], strings.Repeat("\xfe", 32))
	p := partsOf(x)
	taken(t, "in order", "\x01"+strings.Join(p[:], ""))
	for i := range p {
		for j := range p[:i] {
			q := p
			q[i], q[j] = q[j], q[i]
			refused(t, fmt.Sprint("turned ", i, " and ", j), "\x01"+strings.Join(q[:], ""))
		}
		q := p
		q[i] = ""
		refused(t, fmt.Sprint("without ", i), "\x01"+strings.Join(q[:], ""))
		q[i] = p[i] + p[i]
		refused(t, fmt.Sprint("twice ", i), "\x01"+strings.Join(q[:], ""))
	}
}

// N1: all short texts of bytes that may stand there.
func TestAllShort(t *testing.T) {
	root := strings.Repeat("r", 32)
	var walk func(b string, n int)
	walk = func(b string, n int) {
		check(t, b)
		check(t, "\x01\x00"+b+root)
		check(t, "\x01\x00\x01"+root+b)
		check(t, "\x01\x01\x02"+root+b)
		check(t, "\x01"+b+root+"\x01a\x01a")
		check(t, "\x01"+b+root+"\x01a\x01b")
		if n == 0 {
			return
		}
		for _, c := range "\x00\x01\x02ab" {
			walk(b+string(c), n-1)
		}
	}
	walk("", 5)
}

// N1, what follows: unlike lists have unlike summaries, and one list has one.
func TestOneSummaryOfEachList(t *testing.T) {
	of := map[string][]api.Table{}
	r := rand.New(rand.NewPCG(14, 2))
	for range 5000 {
		l := drawn(r.IntN)
		b, err := Bytes(l)
		if err != api.OK {
			continue
		}
		if k, is := of[string(b)]; is && !slices.Equal(k, l) {
			t.Fatalf("one summary of %v and %v", k, l)
		}
		of[string(b)] = l
		taken(t, "drawn", string(b))
	}
	if len(of) < 1000 {
		t.Errorf("only %d summaries", len(of))
	}
}

// N1: summaries by chance, of which a byte is another one, is left out, or is put in.
func TestBytesTurned(t *testing.T) {
	r := rand.New(rand.NewPCG(14, 3))
	was := map[bool]int{}
	for range 20000 {
		b := []byte(rawBytes(drawn(r.IntN)))
		at := r.IntN(len(b))
		switch r.IntN(4) {
		case 0:
			b[at] = byte(r.IntN(256))
		case 1:
			b = slices.Delete(b, at, at+1)
		case 2:
			b = slices.Insert(b, at, byte(r.IntN(256)))
		}
		was[check(t, string(b))]++
	}
	if was[true] < 1000 || was[false] < 1000 {
		t.Errorf("taken and refused: %v", was)
	}
}

// R2: bytes that say that they are very much are given up early.
func TestMuchIsRefused(t *testing.T) {
	like := rawTable(one(0, 1, "a", "a")[0])
	for what, s := range map[string]string{
		"a great number":               rawNumber(math.MaxUint64),
		"a great number, and a table":  rawNumber(math.MaxUint64) + like,
		"a number below it":            rawNumber(1<<63-1) + like,
		"a number of an int's size":    rawNumber(1<<31) + like,
		"very many tables":             rawNumber(200000) + strings.Repeat(like, 200000),
		"very many, 512 of them told":  rawNumber(512) + strings.Repeat(like, 200000),
		"very many, 513 of them told":  rawNumber(513) + strings.Repeat(like, 200000),
		"zeroes":                       strings.Repeat("\x00", 3000000),
		"bytes ff":                     strings.Repeat("\xff", 3000000),
		"a great number, and zeroes":   rawNumber(100000000) + strings.Repeat("\x00", 3000000),
		"a text that is very long":     with(one(0, 1, "a", "a"), 0, 3, rawText(long(3000000))),
		"a length that there isn't":    with(one(0, 1, "a", "a"), 0, 3, rawNumber(1<<62)+"a"),
		"a last one that is very long": with(one(0, 2, "a", "a"), 0, 4, rawText(long(3000000))),
	} {
		b := []byte(s)
		var was, is runtime.MemStats
		runtime.ReadMemStats(&was)
		if l, err := Parse(b); err != api.ErrForm || len(l) > 0 {
			t.Errorf("%s: %d tables, %v", what, len(l), err)
		}
		runtime.ReadMemStats(&is)
		if n := is.TotalAlloc - was.TotalAlloc; n > 10000000 {
			t.Errorf("%s: Parse of %d bytes took %d", what, len(b), n)
		}
	}
}

// N1, N2: any bytes are those of the list that they are read as, or of none.
func FuzzParse(f *testing.F) {
	for _, l := range append(some(), nil, many(20), many(513)) {
		f.Add([]byte(rawBytes(l)), 256)
	}
	f.Add([]byte{}, 0)
	f.Add([]byte(rawNumber(math.MaxUint64)), -1)
	f.Fuzz(func(t *testing.T, b []byte, bits int) {
		if !check(t, string(b)) {
			return
		}
		l, _ := Parse(b)
		held(t, l)
		heldDigest(t, bits, l, true)
		if d, err := Digest(bits, l); err != api.OK || d != kept("\x03"+string(b), bits) || d != kept(string(Text(b)), bits) {
			t.Errorf("Digest of %d bits of %x: %x, %v", bits, b, d, err)
		}
	})
}
