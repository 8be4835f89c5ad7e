package table

import (
	"bytes"
	"fmt"
	"math"
	"math/rand/v2"
	"runtime"
	"slices"
	"strings"
	"testing"

	"marlstone/api"
	"marlstone/block"
)

// exampleFile is the chapter's: the letters, a block of 15 bytes, the index, one block, and the place 19.
const exampleFile = "MARL" + "\x00\x01a\x00\x01\x01v" + "\x00\x00\x00\x00" + "\x00\x00\x00\x01" +
	"\x01a\x0f" + "\x00\x00\x00\x01" + "\x00\x00\x00\x13"

// check holds Parse and Get of any bytes against what the chapter asks; it tells whether they are a file.
func check(t *testing.T, file string) bool {
	t.Helper()
	b := []byte(file)
	l, err := Parse(b)
	want, is := modelParse(file)
	keys := []string{"", "a", "key007"}
	if len(want) > 0 {
		keys = append(keys, want[0].Key, want[len(want)-1].Key)
	}
	for _, key := range keys {
		checkGet(t, b, want, is, key)
	}
	if string(b) != file {
		t.Fatalf("Parse or Get changed %.90x", file)
	}
	if !is {
		if err != api.ErrForm || len(l) > 0 {
			t.Fatalf("Parse %.90x: %.60v, %v", file, l, err)
		}
		return false
	}
	if err != api.OK || !slices.Equal(l, want) {
		t.Fatalf("Parse %.90x: %.60v, %v, not %.60v", file, l, err, want)
	}
	if again, err := Bytes(l); err != api.OK || string(again) != file {
		t.Fatalf("Bytes of what %.90x is read as: %.90x, %v", file, again, err)
	}
	return true
}

// checkGet holds Get against a look at all entries of want, the list whose file b is, if it is one.
func checkGet(t *testing.T, b []byte, want []api.Entry, isFile bool, key string) {
	t.Helper()
	e, is, err := Get(b, key)
	if !isFile {
		if e != (api.Entry{}) || is || err != api.ErrForm {
			t.Fatalf("Get %.40q of %.90x: %.60v, %v, %v", key, b, e, is, err)
		}
		return
	}
	var one api.Entry
	at := slices.IndexFunc(want, func(e api.Entry) bool { return e.Key == key })
	if at >= 0 {
		one = want[at]
	}
	if e != one || is != (at >= 0) || err != api.OK {
		t.Fatalf("Get %.40q: %.60v, %v, %v, not %.60v", key, e, is, err, one)
	}
}

// taken asks that the bytes are a file.
func taken(t *testing.T, what, file string) {
	t.Helper()
	if !check(t, file) {
		t.Errorf("%s: refused", what)
	}
}

// refused asks that the bytes are no file.
func refused(t *testing.T, what, file string) {
	t.Helper()
	if check(t, file) {
		t.Errorf("%s: taken", what)
	}
}

// K2: the chapter's example.
func TestExample(t *testing.T) {
	b, err := Bytes(one())
	if err != api.OK || string(b) != exampleFile {
		t.Errorf("Bytes: %x, %v", b, err)
	}
	l, err := Parse([]byte(exampleFile))
	if err != api.OK || !slices.Equal(l, one()) {
		t.Errorf("Parse: %v, %v", l, err)
	}
	taken(t, "the example", exampleFile)
}

// K2: a file of two blocks told byte by byte: the seventeenth entry stands in the second one, whole.
func TestTwoBlocksTold(t *testing.T) {
	var l []api.Entry
	first := ""
	for i, c := range []byte("abcdefghijklmnopq") {
		l = append(l, api.Entry{Key: "x" + string([]byte{c}), Del: true, Seq: 1})
		switch {
		case i%8 == 0 && i < 16:
			first += "\x00\x02x" + string([]byte{c}) + "\x01\x01"
		case i < 16:
			first += "\x01\x01" + string([]byte{c}) + "\x01\x01"
		}
	}
	first += "\x00\x00\x00\x00" + "\x00\x00\x00\x29" + "\x00\x00\x00\x02"
	second := "\x00\x02xq\x01\x01" + "\x00\x00\x00\x00" + "\x00\x00\x00\x01"
	want := "MARL" + first + second + "\x02xa\x5e" + "\x02xq\x0e" + "\x00\x00\x00\x02" + "\x00\x00\x00\x70"
	if b, err := Bytes(l); err != api.OK || string(b) != want {
		t.Errorf("Bytes: %x, %v, not %x", b, err, want)
	}
	if k, err := Parse([]byte(want)); err != api.OK || !slices.Equal(k, l) {
		t.Errorf("Parse: %v, %v", k, err)
	}
}

// K2: what is written is what the chapter tells, and is read back.
func TestThereAndBack(t *testing.T) {
	for _, l := range lists() {
		b, err := Bytes(l)
		if err != api.OK || string(b) != rawFile(l) {
			t.Errorf("Bytes of %d entries: %.90x, %v, not %.90x", len(l), b, err, rawFile(l))
		}
		if k, err := Parse(b); err != api.OK || !slices.Equal(k, l) {
			t.Errorf("Parse of %d entries: %.60v, %v", len(l), k, err)
		}
		taken(t, fmt.Sprintf("%.60v", l), string(b))
	}
}

// K2: the blocks have sixteen entries each, the last one perhaps less; a block is what block makes of them.
func TestBlocksOfSixteen(t *testing.T) {
	for _, w := range []struct {
		n    int
		rows []int
	}{
		{1, []int{1}}, {2, []int{2}}, {8, []int{8}}, {9, []int{9}}, {15, []int{15}}, {16, []int{16}}, {17, []int{16, 1}}, {31, []int{16, 15}},
		{32, []int{16, 16}}, {33, []int{16, 16, 1}}, {48, []int{16, 16, 16}}, {49, []int{16, 16, 16, 1}}, {63, []int{16, 16, 16, 15}}, {64, []int{16, 16, 16, 16}},
	} {
		l, from := many(w.n), 0
		body, index := "MARL", ""
		for _, n := range w.rows {
			part, err := block.Bytes(l[from : from+n])
			if err != api.OK {
				t.Fatal(err)
			}
			body += string(part)
			index += rawText(l[from].Key) + rawNumber(uint64(len(part)))
			from += n
		}
		want := body + index + words(uint32(len(w.rows)), uint32(len(body)))
		if b, err := Bytes(l); err != api.OK || string(b) != want {
			t.Errorf("Bytes of %d entries: %.90x, %v, not %.90x", w.n, b, err, want)
		}
		taken(t, fmt.Sprint(w.n, " entries"), want)
	}
}

// K2: of a list that is not fit there is no file; what would be its file is none's.
func TestNotFit(t *testing.T) {
	for _, l := range notFit() {
		if b, err := Bytes(l); err != api.ErrArg || len(b) > 0 {
			t.Errorf("Bytes of %.90v: %.90x, %v", l, b, err)
		}
		// A value beside Del is not written: that file is one of another list.
		if slices.ContainsFunc(l, func(e api.Entry) bool { return e.Del && e.Value != "" }) {
			taken(t, "the file without the value", rawFile(l))
			continue
		}
		refused(t, fmt.Sprintf("the file of %.90v", l), rawFile(l))
	}
}

// K2: no beginning of a file is one, and no file with bytes behind, or ahead.
func TestCutAndMore(t *testing.T) {
	for _, l := range [][]api.Entry{one(), many(1), many(16), many(17), many(33), many(64), growing(20), short(64)} {
		b := rawFile(l)
		for n := range b {
			refused(t, fmt.Sprint("cut at ", n), b[:n])
			refused(t, fmt.Sprint("from ", n+1), b[n+1:])
		}
		for c := range 256 {
			x := string([]byte{byte(c)})
			refused(t, fmt.Sprint("with ", c, " behind"), b+x)
			refused(t, fmt.Sprint("with ", c, " ahead"), x+b)
		}
		for n := 1; n <= 30; n++ {
			refused(t, fmt.Sprint("with ", n, " bytes 00 behind"), b+strings.Repeat("\x00", n))
			refused(t, fmt.Sprint("with the last ", n, " bytes twice"), b+b[len(b)-n:])
		}
		refused(t, "two files", b+b)
	}
	refused(t, "nothing", "")
	if l, err := Parse(nil); err != api.ErrForm || len(l) > 0 {
		t.Errorf("Parse nil: %v, %v", l, err)
	}
}

// K2: each byte turned to each other one: no file, or that of another list.
func TestEachByteTurned(t *testing.T) {
	others := 0
	for _, l := range [][]api.Entry{one(), many(2), short(17), growing(5)} {
		b := []byte(rawFile(l))
		for i := range b {
			for c := range 256 {
				k := bytes.Clone(b)
				k[i] = byte(c)
				if !check(t, string(k)) || byte(c) == b[i] {
					continue
				}
				others++
				if m, _ := Parse(k); slices.Equal(m, l) {
					t.Errorf("the byte at %d turned to %02x: the same list", i, c)
				}
			}
		}
	}
	// Values and Seqs may be others: were none of these taken, nothing would have been asked.
	if others < 1000 {
		t.Errorf("only %d taken", others)
	}
}

// K2: in greater files each byte turned in some ways, left out, or doubled.
func TestBytesTurnedInMany(t *testing.T) {
	for _, l := range [][]api.Entry{many(16), many(33), many(64)} {
		b := []byte(rawFile(l))
		for i := range b {
			for _, x := range []byte{0x01, 0x02, 0x10, 0x80, 0xff} {
				k := bytes.Clone(b)
				k[i] ^= x
				check(t, string(k))
			}
			check(t, string(slices.Delete(bytes.Clone(b), i, i+1)))
			check(t, string(slices.Insert(bytes.Clone(b), i, b[i])))
		}
	}
}

// K2: a file begins with its letters.
func TestLetters(t *testing.T) {
	for _, n := range []int{1, 17} {
		p := planOf(sixteens(many(n))...)
		taken(t, "MARL", p.file())
		for _, s := range []string{"", "M", "MAR", "marl", "MARl", "MARLM", "MRAL", "LRAM", "\x00\x00\x00\x00", "    ", "MARLMARL"} {
			p.letters = s
			refused(t, fmt.Sprintf("the letters %q", s), p.file())
			// With the place told that the index has then, too.
			p.place = words(uint32(len(s) + len(strings.Join(p.blocks, ""))))
			refused(t, fmt.Sprintf("the letters %q, and the place", s), p.file())
			p = planOf(sixteens(many(n))...)
		}
	}
}

// K2: the blocks have sixteen entries each, the last one alone may have less.
func TestOtherRows(t *testing.T) {
	for n := 1; n <= 36; n++ {
		l := many(n)
		for i := range n + 1 {
			for k := i; k <= n; k++ {
				rows := [][]api.Entry{l[:i], l[i:k], l[k:]}
				rows = slices.DeleteFunc(rows, func(l []api.Entry) bool { return len(l) == 0 })
				want := slices.EqualFunc(rows, sixteens(l), slices.Equal)
				if is := check(t, planOf(rows...).file()); is != want {
					t.Errorf("blocks of %d, %d and %d entries: taken is %v", i, k-i, n-k, is)
				}
			}
		}
	}
	l := many(64)
	refused(t, "one block of 64", planOf(l).file())
	refused(t, "two of 32", planOf(l[:32], l[32:]).file())
	refused(t, "eight of eight", planOf(l[:8], l[8:16], l[16:24], l[24:32], l[32:40], l[40:48], l[48:56], l[56:]).file())
	var ones [][]api.Entry
	for i := range l {
		ones = append(ones, l[i:i+1])
	}
	refused(t, "64 of one", planOf(ones...).file())
	refused(t, "one of 17", planOf(l[:17]).file())
}

// K2: a block without entries is none, and so is a file without blocks.
func TestNoEntries(t *testing.T) {
	l := many(16)
	refused(t, "no block", planOf().file())
	refused(t, "an empty one", planOf(nil).file())
	refused(t, "an empty one ahead", planOf(nil, l).file())
	refused(t, "an empty one behind", planOf(l, nil).file())
	p := planOf(l)
	p.blocks, p.index, p.count = append(p.blocks, ""), append(p.index, rawText("")+"\x00"), words(2)
	refused(t, "one of no bytes behind", p.file())
	p.index[1] = rawText("key016") + "\x00"
	refused(t, "one of no bytes behind, with a key", p.file())
	refused(t, "letters and zeroes", "MARL"+words(0, 0))
	refused(t, "letters, and the place behind them", "MARL"+words(0, 4))
	refused(t, "letters, one block, and the place behind them", "MARL"+words(1, 4))
}

// K2: the keys rise from block to block, too, and the blocks stand in order.
func TestBlocksOutOfOrder(t *testing.T) {
	l := many(48)
	rows := sixteens(l)
	taken(t, "in order", planOf(rows...).file())
	refused(t, "turned", planOf(rows[1], rows[0], rows[2]).file())
	refused(t, "turned at the end", planOf(rows[0], rows[2], rows[1]).file())
	refused(t, "one twice", planOf(rows[0], rows[0], rows[1]).file())
	refused(t, "the last one twice", planOf(rows[0], rows[1], rows[1]).file())
	// The index in another order than the blocks.
	p := planOf(rows...)
	p.index[0], p.index[1] = p.index[1], p.index[0]
	refused(t, "a turned index", p.file())
	// The first key of a block is the last one of the block ahead.
	twice := many(32)
	twice[16].Key = twice[15].Key
	refused(t, "one key in two blocks", rawFile(twice))
	twice[16].Key = twice[14].Key
	refused(t, "a lesser key in the next block", rawFile(twice))
}

// K2: a fault in one of the blocks.
func TestBlocksThatAreNone(t *testing.T) {
	for at := range 3 {
		p := planOf(sixteens(many(48))...)
		whole := p.blocks[at]
		for _, s := range []string{"", whole[:len(whole)-1], whole[1:], whole + "\x00", "\x00" + whole, whole[:4], strings.Repeat("\x00", len(whole)), whole + whole} {
			p.blocks[at] = s
			refused(t, fmt.Sprint("a block that is none, at ", at), p.file())
			// With an index that tells of it what it has.
			q := planOf(sixteens(many(48))...)
			q.blocks[at] = s
			q.index[at] = rawText(many(48)[16*at].Key) + rawNumber(uint64(len(s)))
			q.place = words(uint32(4 + len(strings.Join(q.blocks, ""))))
			refused(t, fmt.Sprint("a block that is none, told by the index, at ", at), q.file())
		}
	}
}

// K2: the index tells each block's first key, no other one.
func TestIndexKeys(t *testing.T) {
	l := many(48)
	for at := range 3 {
		key := l[16*at].Key
		size := rawNumber(uint64(len(rawBlock(sixteens(l)[at]))))
		for _, s := range []string{"", "a", "k", key[:5], key + "\x00", strings.ToUpper(key), l[16*at+1].Key, l[16*at+15].Key, l[(16*at+16)%48].Key, "key", "key100", long(128), long(129), long(5000)} {
			p := planOf(sixteens(l)...)
			p.index[at] = rawText(s) + size
			refused(t, fmt.Sprintf("the key %.20q at %d", s, at), p.file())
		}
		p := planOf(sixteens(l)...)
		p.index[at] = rawText(key) + size
		taken(t, "the right key", p.file())
	}
}

// K2: the index tells how many bytes each block has.
func TestIndexSizes(t *testing.T) {
	l := many(48)
	for at := range 3 {
		p := planOf(sixteens(l)...)
		size := uint64(len(p.blocks[at]))
		key := rawText(l[16*at].Key)
		sizes := []uint64{127, 128, 1 << 31, 1 << 32, 1<<32 + size, 1<<63 - 1, 1 << 63, 1<<63 + size, math.MaxUint64 - 1, math.MaxUint64}
		for n := range 2*size + 20 {
			sizes = append(sizes, n)
		}
		for _, n := range sizes {
			p.index[at] = key + rawNumber(n)
			if is := check(t, p.file()); is != (n == size) {
				t.Errorf("%d bytes at %d: taken is %v", n, at, is)
			}
		}
	}
	// A byte that is told of another block.
	for _, by := range []int{-12, -4, -1, 1, 4, 12} {
		p := planOf(sixteens(l)...)
		p.index[0] = rawText(l[0].Key) + rawNumber(uint64(len(p.blocks[0])+by))
		p.index[1] = rawText(l[16].Key) + rawNumber(uint64(len(p.blocks[1])-by))
		refused(t, fmt.Sprint("told by ", by, " of another one"), p.file())
	}
}

// K2: the index tells each block once, and nothing else.
func TestIndexMoreAndLess(t *testing.T) {
	l := many(48)
	for at := range 3 {
		p := planOf(sixteens(l)...)
		p.index = slices.Delete(p.index, at, at+1)
		refused(t, fmt.Sprint("without the block at ", at), p.file())
		p.count = words(2)
		refused(t, fmt.Sprint("without the block at ", at, ", and its count"), p.file())
		p = planOf(sixteens(l)...)
		p.index = slices.Insert(p.index, at, p.index[at])
		refused(t, fmt.Sprint("the block twice at ", at), p.file())
		p.count = words(4)
		refused(t, fmt.Sprint("the block twice at ", at, ", and its count"), p.file())
		p = planOf(sixteens(l)...)
		p.index[at] = p.index[at][:len(p.index[at])-1]
		refused(t, fmt.Sprint("an index cut at ", at), p.file())
	}
	for _, more := range []string{"\x00", "\x01", "\x80", "\xff", "\x00\x00", "\x01a", "\x01a\x00", "\x01a\x01", rawText("key048") + "\x0f", words(3), words(0)} {
		p := planOf(sixteens(l)...)
		p.index = append(p.index, more)
		refused(t, fmt.Sprintf("%x behind the index", more), p.file())
		p.count = words(4)
		refused(t, fmt.Sprintf("%x behind the index, and its count", more), p.file())
	}
	p := planOf(sixteens(l)...)
	p.index = nil
	refused(t, "no index", p.file())
	p.count = words(0)
	refused(t, "no index, and its count", p.file())
}

// K2: how many blocks there are is told.
func TestCount(t *testing.T) {
	for _, n := range []int{1, 16, 17, 33, 64} {
		p := planOf(sixteens(many(n))...)
		right := uint32(len(p.blocks))
		counts := []uint32{1 << 8, 1 << 16, 1 << 24, right << 8, right << 24, 1 << 31, 1<<31 - 1, math.MaxUint32, 1<<24 + right, 1<<31 + right}
		for c := range uint32(300) {
			counts = append(counts, c)
		}
		for _, c := range counts {
			p.count = words(c)
			if is := check(t, p.file()); is != (c == right) {
				t.Errorf("%d blocks of %d told: taken is %v", c, right, is)
			}
		}
		for _, s := range []string{"", "\x00", "\x01", "\x00\x00\x01", "\x00\x00\x00\x00\x01", "\x01\x00\x00\x00"} {
			p.count = s
			refused(t, fmt.Sprintf("a count written %x", s), p.file())
		}
	}
}

// K2: the place at which the index begins is told.
func TestPlace(t *testing.T) {
	for _, n := range []int{1, 17, 33} {
		p := planOf(sixteens(many(n))...)
		right := uint32(fixed(p.place))
		places := []uint32{1 << 16, 1 << 24, right << 8, 1 << 31, 1<<31 - 1, math.MaxUint32, math.MaxUint32 - 3, math.MaxUint32 - 7, math.MaxUint32 - 11, 1<<24 + right, 1<<31 + right}
		for c := range uint32(len(p.file()) + 40) {
			places = append(places, c)
		}
		for _, c := range places {
			p.place = words(c)
			if is := check(t, p.file()); is != (c == right) {
				t.Errorf("the place %d of %d told: taken is %v", c, right, is)
			}
		}
		for _, s := range []string{"", "\x00", "\x13", "\x00\x00\x13", "\x00\x00\x00\x00\x13", "\x13\x00\x00\x00"} {
			p.place = s
			refused(t, fmt.Sprintf("a place written %x", s), p.file())
		}
		// The count and the place, the other way round.
		p = planOf(sixteens(many(n))...)
		p.count, p.place = p.place, p.count
		refused(t, "the place ahead of the count", p.file())
	}
}

// K2: bytes that belong to nothing, told or not by the place.
func TestBytesBetween(t *testing.T) {
	l := many(33)
	for _, s := range []string{"\x00", "\x01", "M", "MARL", rawBlock(l[:1]), words(0), words(0, 0)} {
		for at := range 4 {
			p := planOf(sixteens(l)...)
			p.blocks = slices.Insert(p.blocks, at, s)
			refused(t, fmt.Sprintf("%x ahead of the block at %d", s, at), p.file())
			p.place = words(uint32(4 + len(strings.Join(p.blocks, ""))))
			refused(t, fmt.Sprintf("%x ahead of the block at %d, and the place", s, at), p.file())
		}
	}
	// The index ahead of the blocks, with the place told.
	p := planOf(sixteens(l)...)
	p.blocks, p.index, p.place = p.index, p.blocks, words(4)
	refused(t, "the index ahead", p.file())
}

// K2: a number has one way to be written.
func TestLongerNumbers(t *testing.T) {
	l := many(33)
	for at := range 3 {
		key := l[16*at].Key
		size := uint64(len(rawBlock(sixteens(l)[at])))
		for what, s := range map[string]string{
			"a key's length":  longer(uint64(len(key))) + key + rawNumber(size),
			"a size":          rawText(key) + longer(size),
			"both":            longer(uint64(len(key))) + key + longer(size),
			"no number":       rawText(key) + "\x80",
			"eleven bytes":    rawText(key) + strings.Repeat("\x80", 10) + "\x01",
			"a tenth byte":    rawText(key) + strings.Repeat("\xff", 9) + "\x02",
			"a length of all": "\xff\xff\xff\xff\xff\xff\xff\xff\xff\x01" + key + rawNumber(size),
		} {
			p := planOf(sixteens(l)...)
			p.index[at] = s
			refused(t, fmt.Sprint(what, " at ", at), p.file())
		}
	}
	// Within a block, too, whose length is told as it is then.
	for what, s := range map[string]string{
		"SHARED":           "\x80\x00\x01a\x00\x01\x01v",
		"a key's length":   "\x00\x81\x00a\x00\x01\x01v",
		"Seq":              "\x00\x01a\x00\x81\x00\x01v",
		"a value's length": "\x00\x01a\x00\x01\x81\x00v",
	} {
		p := planOf(one())
		p.blocks[0] = s + words(0, 1)
		p.index[0] = rawText("a") + rawNumber(uint64(len(p.blocks[0])))
		p.place = words(uint32(4 + len(p.blocks[0])))
		refused(t, what, p.file())
	}
	taken(t, "the shorter way", planOf(one()).file())
}

// K2, what follows: unlike lists have unlike files.
func TestOneFileOfEachList(t *testing.T) {
	of := map[string]int{}
	all := lists()
	for i, l := range all {
		for range 2 {
			b, err := Bytes(slices.Clone(l))
			if err != api.OK {
				t.Fatalf("Bytes of %.90v: %v", l, err)
			}
			if k, is := of[string(b)]; is && k != i {
				t.Errorf("one file of %.90v and %.90v", l, all[k])
			}
			of[string(b)] = i
		}
	}
	if len(of) != len(all) {
		t.Errorf("%d files of %d lists", len(of), len(all))
	}
}

// K3: keys that are there, and such that are not, by a look at all entries.
func TestGet(t *testing.T) {
	for _, l := range lists() {
		b := []byte(rawFile(l))
		keys := []string{"", "\x00", "a", "b", "k", "key", "l", "z", "\xff", "\xff\xff\xff", "MARL", long(128), long(129), long(5000)}
		for _, e := range l {
			keys = append(keys, e.Key, e.Key+"\x00", e.Key+"\xff", e.Key[:len(e.Key)-1], e.Key[:len(e.Key)-1]+"\x00")
		}
		for _, key := range keys {
			checkGet(t, b, l, true, key)
		}
		if string(b) != rawFile(l) {
			t.Errorf("Get changed its file")
		}
	}
}

// K3: told key by key: below all, there, between, at the ends of blocks, with Del, and above all.
func TestGetOfWhatIsTold(t *testing.T) {
	b, _ := Bytes(many(40))
	for _, w := range []struct {
		key string
		e   api.Entry
		is  bool
	}{
		{"", api.Entry{}, false},
		{"key", api.Entry{}, false},
		{"key00", api.Entry{}, false},
		{"key000", api.Entry{Key: "key000", Value: "v0", Seq: 1}, true},
		{"key0000", api.Entry{}, false},
		{"key002", api.Entry{Key: "key002", Del: true, Seq: 9}, true},
		{"key015", api.Entry{Key: "key015", Value: "v225", Seq: 3376}, true},
		{"key0155", api.Entry{}, false},
		{"key016", api.Entry{Key: "key016", Value: "v256", Seq: 4097}, true},
		{"key031", api.Entry{Key: "key031", Value: "v961", Seq: 29792}, true},
		{"key032", api.Entry{Key: "key032", Del: true, Seq: 32769}, true},
		{"key039", api.Entry{Key: "key039", Value: "v1521", Seq: 59320}, true},
		{"key039\x00", api.Entry{}, false},
		{"key040", api.Entry{}, false},
		{"z", api.Entry{}, false},
	} {
		if e, is, err := Get(b, w.key); e != w.e || is != w.is || err != api.OK {
			t.Errorf("Get %q: %v, %v, %v", w.key, e, is, err)
		}
	}
}

// K3: bytes that are no file tell nothing of any key, wherever their fault stands.
func TestGetOfNoFile(t *testing.T) {
	whole := rawFile(many(40))
	faults := []string{"", "MARL", whole[:len(whole)-1], whole + "\x00", "N" + whole[1:], "x" + whole, rawFile(many(65)), rawFile(nil)}
	for _, at := range []int{4, len(whole) / 2, len(whole) - 1, len(whole) - 5, len(whole) - 9} {
		b := []byte(whole)
		b[at] ^= 0xff
		faults = append(faults, string(b))
	}
	for _, s := range faults {
		for _, key := range []string{"", "key000", "key020", "key039", "z", long(200)} {
			checkGet(t, []byte(s), nil, false, key)
		}
	}
	if e, is, err := Get(nil, "a"); e != (api.Entry{}) || is || err != api.ErrForm {
		t.Errorf("Get of nothing: %v, %v, %v", e, is, err)
	}
}

// R1: what is handed in stays as it was, its spare room with it, and what is answered is nobody else's.
func TestNothingIsShared(t *testing.T) {
	room := append(many(40), api.Entry{Key: "spare", Seq: 7})
	b, _ := Bytes(room[:40])
	other, _ := Bytes(room[:40])
	if !slices.Equal(room[:40], many(40)) || room[40] != (api.Entry{Key: "spare", Seq: 7}) {
		t.Error("Bytes changed its list")
	}
	clear(room)
	if string(b) != rawFile(many(40)) {
		t.Error("a file hangs on its list")
	}
	clear(b)
	if string(other) != rawFile(many(40)) {
		t.Error("two files hang together")
	}

	wide := []byte(rawFile(many(40)) + "spare")
	n := len(wide) - 5
	l, _ := Parse(wide[:n])
	again, _ := Parse(wide[:n])
	e, _, _ := Get(wide[:n], "key007")
	if string(wide) != rawFile(many(40))+"spare" {
		t.Error("Parse or Get changed its bytes")
	}
	for i := range wide {
		wide[i] = 0xaa
	}
	if !slices.Equal(l, many(40)) || e != many(40)[7] {
		t.Error("what is read hangs on its bytes")
	}
	clear(l)
	if !slices.Equal(again, many(40)) {
		t.Error("two lists hang together")
	}
}

// R2: bytes that would be very many blocks, or very great ones, are given up early.
func TestMuchIsRefused(t *testing.T) {
	row := rawBlock(one())
	const n = 100000
	index := strings.Repeat(rawText("a")+rawNumber(uint64(len(row))), n)
	blocks := "MARL" + strings.Repeat(row, n) + index + words(n, uint32(4+n*len(row)))
	empty := "MARL" + strings.Repeat("\x01a\x00", n) + words(n, 4)
	key := "MARL" + rawText(long(3000000)) + "\x00" + words(1, 4)
	for _, s := range []string{blocks, empty, key} {
		b := []byte(s)
		var was, is runtime.MemStats
		runtime.ReadMemStats(&was)
		if l, err := Parse(b); err != api.ErrForm || len(l) > 0 {
			t.Errorf("Parse: %d entries, %v", len(l), err)
		}
		runtime.ReadMemStats(&is)
		if n := is.TotalAlloc - was.TotalAlloc; n > 10000000 {
			t.Errorf("Parse of %d bytes took %d", len(b), n)
		}
	}
}

// R2: all short texts between letters and foot, of bytes that may stand there.
func TestAllShort(t *testing.T) {
	var walk func(b string, n int)
	walk = func(b string, n int) {
		check(t, b)
		check(t, "MARL"+b)
		for place := range uint32(len(b) + 2) {
			check(t, "MARL"+b+words(1, 4+place))
		}
		if n == 0 {
			return
		}
		for _, c := range "\x00\x01a" {
			walk(b+string(c), n-1)
		}
	}
	walk("", 6)
}

// K2: any rows as blocks, with at most one part of the plan another one; what is as it should be is taken.
func TestAnyPlans(t *testing.T) {
	r := rand.New(rand.NewPCG(11, 16))
	was := map[bool]int{}
	for range 4000 {
		l := many(1 + r.IntN(66))
		rows := sixteens(l)
		if r.IntN(4) == 0 {
			at := r.IntN(len(l) + 1)
			rows = slices.Concat(sixteens(l[:at]), sixteens(l[at:]))
		}
		p := planOf(rows...)
		k := r.IntN(len(p.blocks))
		switch r.IntN(10) {
		case 0:
			p.blocks[k] = turned(r, p.blocks[k])
		case 1:
			p.index[k] = turned(r, p.index[k])
		case 2:
			p.count = turned(r, p.count)
		case 3:
			p.place = turned(r, p.place)
		case 4:
			p.letters = turned(r, p.letters)
		}
		was[check(t, p.file())]++
	}
	if was[true] < 500 || was[false] < 500 {
		t.Errorf("taken and refused: %v", was)
	}
}

// turned is s with a byte put in, turned or taken away.
func turned(r *rand.Rand, s string) string {
	at := r.IntN(len(s))
	c := string([]byte{byte(r.IntN(256))})
	switch r.IntN(3) {
	case 0:
		return s[:at] + c + s[at:]
	case 1:
		return s[:at] + c + s[at+1:]
	}
	return s[:at] + s[at+1:]
}

// R4: asked again, the same is answered.
func TestAgain(t *testing.T) {
	for range 3 {
		if b, err := Bytes(many(64)); err != api.OK || string(b) != rawFile(many(64)) {
			t.Errorf("Bytes: %v", err)
		}
		refused(t, "no file", "MARL")
		taken(t, "the example", exampleFile)
	}
}

// K2, K3: any bytes are the file of the list that they are read as, or of none.
func FuzzParse(f *testing.F) {
	for _, l := range [][]api.Entry{one(), many(1), many(16), many(17), many(64), many(65), growing(33), short(20)} {
		f.Add([]byte(rawFile(l)), "key003")
	}
	f.Add([]byte{}, "")
	f.Add([]byte("MARL"), "a")
	f.Fuzz(func(t *testing.T, b []byte, key string) {
		want, is := modelParse(string(b))
		if check(t, string(b)) != is {
			t.Errorf("taken is not %v", is)
		}
		checkGet(t, b, want, is, key)
	})
}
