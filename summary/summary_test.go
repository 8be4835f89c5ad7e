package summary

import (
	"fmt"
	"math"
	"math/rand/v2"
	"slices"
	"strings"
	"testing"

	"marlstone/api"
)

// keeps are numbers of bits: those that there are, and some below and above.
var keeps = []int{math.MinInt, -257, -1, 0, 1, 7, 8, 9, 100, 255, 256, 257, 1000, math.MaxInt}

func long(n int) string { return strings.Repeat("k", n) }

// tables is a list out of a short text: of each table the level, the first and the last key; Count is 1 where these are the same, else 2. No two roots are the same.
func tables(s string) []api.Table {
	var l []api.Table
	for _, word := range strings.Fields(s) {
		level, ends, _ := strings.Cut(word, ":")
		first, last, _ := strings.Cut(ends, "-")
		x := api.Table{Level: int(level[0] - '0'), Count: 2, Root: kept(fmt.Sprint(len(l), word), 256), First: first, Last: last}
		if first == last {
			x.Count = 1
		}
		l = append(l, x)
	}
	return l
}

// one is a list of this table alone.
func one(level, count int, first, last string) []api.Table {
	return []api.Table{{Level: level, Count: count, Root: kept(first, 256), First: first, Last: last}}
}

// many is n tables, right if these are at most 512: half of them of the level 0, which overlap, the others of the levels from 1 on, which do not.
func many(n int) []api.Table {
	var l []api.Table
	for i := range n {
		x := api.Table{Count: 2 + i%63, Root: kept(fmt.Sprint(i), 256), First: fmt.Sprintf("k%04d", i), Last: fmt.Sprintf("k%04d\xff", i)}
		if i < n/2 {
			x.Last = fmt.Sprintf("k%04d", i+9)
		} else {
			x.Level = 1 + 3*(i-n/2)/(n-n/2)
		}
		l = append(l, x)
	}
	return l
}

// rights are lists that are right, of many kinds.
func rights() [][]api.Table {
	all := [][]api.Table{
		nil, {},
		tables("0:a-k 1:b-b 1:c-f"),
		tables("0:a-a"), tables("1:a-a"), tables("2:a-a"), tables("3:a-a"),
		tables("0:a-b 0:a-b 0:a-b"), tables("0:c-d 0:a-b"), tables("0:a-z 0:b-c"), tables("0:a-a 0:a-a"),
		tables("1:a-b 1:c-d 2:a-b 2:c-d 3:a-b 3:c-d"),
		tables("0:z-z 1:y-y 2:x-x 3:w-w"),
		tables("0:a-a 3:a-a"), tables("1:a-z 2:a-z 3:a-z"),
		one(0, 64, "\x00", "\xff"), one(3, 2, "\xff", "\xff\x00"), one(2, 64, long(127), long(128)),
		one(1, 1, long(128), long(128)), one(0, 2, "\x7f", "\x80"),
		append(one(1, 2, "a", "b"), one(1, 2, "b\x00", "c")...),
	}
	for _, n := range []int{1, 2, 5, 127, 128, 129, 255, 256, 257, 511, 512} {
		all = append(all, many(n))
	}
	return all
}

// wrongs are lists that are not right, each by one fault.
func wrongs() [][]api.Table {
	all := [][]api.Table{
		one(-1, 2, "a", "b"), one(4, 2, "a", "b"), one(5, 2, "a", "b"), one(256, 2, "a", "b"), one(math.MinInt, 2, "a", "b"), one(math.MaxInt, 2, "a", "b"),
		one(0, 0, "a", "b"), one(0, 0, "a", "a"), one(0, -1, "a", "b"), one(0, -1, "a", "a"), one(0, 65, "a", "b"), one(3, 128, "a", "b"), one(0, math.MinInt, "a", "b"), one(0, math.MaxInt, "a", "b"),
		one(0, 2, "", "b"), one(0, 2, "a", ""), one(0, 1, "", ""), one(0, 1, "", "a"), one(0, 1, "a", ""),
		one(0, 2, long(129), "l"), one(0, 2, "a", long(129)), one(0, 1, long(129), long(129)), one(1, 2, long(128), long(129)), one(0, 2, long(300), long(301)),
		one(0, 1, "a", "b"), one(0, 1, "b", "a"), one(0, 2, "a", "a"), one(0, 2, "b", "a"), one(0, 64, "a", "a"), one(0, 64, "b", "a"), one(3, 2, "aa", "a"), one(2, 2, "\x80", "\x7f"),
		tables("1:a-b 0:c-d"), tables("2:a-b 1:c-d"), tables("3:a-b 2:c-d"), tables("3:a-b 0:c-d"), tables("0:a-b 2:a-b 1:c-d 3:a-b"), tables("0:a-b 1:a-b 0:a-b"),
		tables("1:a-b 1:b-c"), tables("2:a-b 2:b-c"), tables("3:a-b 3:b-c"), tables("1:a-a 1:a-a"), tables("1:c-d 1:a-b"), tables("2:a-z 2:b-c"), tables("3:b-c 3:a-z"), tables("1:a-b 1:a-b"), tables("1:a-b 1:c-d 1:d-e"), tables("0:a-b 1:a-c 1:b-d 2:a-b"),
		many(513), many(514), many(600), many(1024), make([]api.Table, 1), make([]api.Table, 513),
	}
	for _, at := range []int{0, 1, 200, 256, 510, 511} {
		count, ends := many(512), many(512)
		count[at].Count = 65
		ends[at].Last = ends[at].First
		all = append(all, count, ends)
	}
	for _, at := range []int{256, 300, 510} {
		turned := many(512)
		turned[at], turned[at+1] = turned[at+1], turned[at]
		all = append(all, turned)
	}
	return all
}

// held holds all that is told of l, and of its bytes, against the model; it tells whether l is right.
func held(t *testing.T, l []api.Table) bool {
	t.Helper()
	ahead := slices.Clone(l)
	is := modelRight(l)
	raw := rawBytes(l)
	if Right(l) != is {
		t.Fatalf("Right of %.300v: not %v", l, is)
	}
	b, err := Bytes(l)
	switch {
	case is && (err != api.OK || string(b) != raw):
		t.Fatalf("Bytes of %.300v: %.90x, %v, not %.90x", l, b, err, raw)
	case !is && (err != api.ErrArg || len(b) > 0):
		t.Fatalf("Bytes of %.300v: %.90x, %v", l, b, err)
	}
	for _, bits := range keeps {
		heldDigest(t, bits, l, is)
	}
	if !slices.Equal(l, ahead) {
		t.Fatalf("%.300v is %.300v now", ahead, l)
	}
	return is
}

// heldDigest holds Digest of l, which is right or not.
func heldDigest(t *testing.T, bits int, l []api.Table, is bool) {
	t.Helper()
	var want api.Digest
	wantErr := api.ErrArg
	if is {
		want, wantErr = kept("\x03"+rawBytes(l), bits), api.OK
	}
	if d, err := Digest(bits, l); d != want || err != wantErr {
		t.Fatalf("Digest, %d bits, of %.300v: %x, %v, not %x, %v", bits, l, d, err, want, wantErr)
	}
}

// N1, N2: the chapter's examples.
func TestExamples(t *testing.T) {
	for _, l := range [][]api.Table{nil, {}} {
		b, err := Bytes(l)
		if err != api.OK || string(b) != "\x00" {
			t.Errorf("Bytes: %x, %v", b, err)
		}
		d, err := Digest(256, l)
		// The sum of 03 00, that was reckoned elsewhere.
		if err != api.OK || fmt.Sprintf("%x", d) != "9b4fb24edd6d1d8830e272398263cdbf026b97392cc35387b991dc0248a628f9" {
			t.Errorf("Digest: %x, %v", d, err)
		}
		if !Right(l) {
			t.Error("nothing is not right")
		}
	}
	if l, err := Parse([]byte{0}); err != api.OK || len(l) > 0 {
		t.Errorf("Parse of 00: %v, %v", l, err)
	}
}

// N1, N2: a list of two tables told byte by byte, and its digest, that was reckoned elsewhere.
func TestTold(t *testing.T) {
	x := api.Table{Level: 0, Count: 2, First: "a", Last: "k"}
	y := api.Table{Level: 3, Count: 64, First: "bc", Last: "bcd"}
	for i := range 32 {
		x.Root[i], y.Root[i] = byte(i), 0xff
	}
	l := []api.Table{x, y}
	want := "\x02" +
		"\x00\x02" + "\x00\x01\x02\x03\x04\x05\x06\x07\x08\x09\x0a\x0b\x0c\x0d\x0e\x0f\x10\x11\x12\x13\x14\x15\x16\x17\x18\x19\x1a\x1b\x1c\x1d\x1e\x1f" + "\x01a\x01k" +
		"\x03\x40" + strings.Repeat("\xff", 32) + "\x02bc\x03bcd"
	if b, err := Bytes(l); err != api.OK || string(b) != want {
		t.Errorf("Bytes: %x, %v", b, err)
	}
	if k, err := Parse([]byte(want)); err != api.OK || !slices.Equal(k, l) {
		t.Errorf("Parse: %v, %v", k, err)
	}
	if d, err := Digest(256, l); err != api.OK || fmt.Sprintf("%x", d) != "6ee346fe3b6fe5be111891f94fca10310e552310645f24527be7e1ac5ca41b42" {
		t.Errorf("Digest: %x, %v", d, err)
	}
	if d, err := Digest(12, l); err != api.OK || fmt.Sprintf("%x", d) != "6ee"+strings.Repeat("0", 61) {
		t.Errorf("Digest of 12 bits: %x, %v", d, err)
	}
}

// N1, N2: lists that are right, and such that are not.
func TestRightAndNot(t *testing.T) {
	for _, l := range rights() {
		if !held(t, l) {
			t.Errorf("not right: %.300v", l)
		}
	}
	for _, l := range wrongs() {
		if held(t, l) {
			t.Errorf("right: %.300v", l)
		}
	}
}

// N1: at most 512 tables.
func TestRightHowMany(t *testing.T) {
	for n := 500; n <= 530; n++ {
		if Right(many(n)) != (n <= 512) {
			t.Errorf("%d tables", n)
		}
		var zero []api.Table
		for range n {
			zero = append(zero, one(0, 1, "a", "a")...)
		}
		if held(t, zero) != (n <= 512) {
			t.Errorf("%d like tables of level 0", n)
		}
	}
	if Right(make([]api.Table, 100000)) || Right(many(100000)) {
		t.Error("very many")
	}
}

// N1: a Level is from 0 to 3, a Count from 1 to 64.
func TestRightNumbers(t *testing.T) {
	numbers := []int{math.MinInt, math.MinInt + 1, -1 << 32, math.MaxInt - 1, math.MaxInt, 1 << 32, 1<<32 + 1, 1<<32 + 2, 1<<62 + 2}
	for n := -70; n <= 300; n++ {
		numbers = append(numbers, n)
	}
	for _, n := range numbers {
		if held(t, one(n, 2, "a", "b")) != (n >= 0 && n <= 3) {
			t.Errorf("Level %d", n)
		}
		if held(t, one(n, 1, "a", "a")) != (n >= 0 && n <= 3) {
			t.Errorf("Level %d, Count 1", n)
		}
		if held(t, one(1, n, "a", "b")) != (n >= 2 && n <= 64) {
			t.Errorf("Count %d of two ends", n)
		}
		if held(t, one(1, n, "a", "a")) != (n == 1) {
			t.Errorf("Count %d of one end", n)
		}
		if held(t, one(1, n, "b", "a")) {
			t.Errorf("Count %d of ends that are turned", n)
		}
	}
}

// N1: First and Last have 1 to 128 bytes.
func TestRightLengths(t *testing.T) {
	for n := range 300 {
		is := n >= 1 && n <= 128
		if held(t, one(0, 1, long(n), long(n))) != is {
			t.Errorf("both of %d bytes", n)
		}
		if held(t, one(0, 2, long(n), "z")) != is {
			t.Errorf("First of %d bytes", n)
		}
		if held(t, one(0, 2, "A", long(n))) != is {
			t.Errorf("Last of %d bytes", n)
		}
		for m := n - 2; m <= n+2; m++ {
			if m >= 0 && held(t, one(3, 2, long(n), long(m))) != (n >= 1 && n < m && m <= 128) {
				t.Errorf("First of %d bytes, Last of %d", n, m)
			}
		}
	}
	if held(t, one(0, 2, "A", long(1000000))) || held(t, one(0, 2, long(1000000), "z")) {
		t.Error("very long ones")
	}
	// Bytes are counted, not letters.
	if held(t, one(0, 1, strings.Repeat("ä", 65), strings.Repeat("ä", 65))) || !held(t, one(0, 1, strings.Repeat("ä", 64), strings.Repeat("ä", 64))) {
		t.Error("letters of two bytes")
	}
}

// near are texts, rising, that are near each other; a beginning of a text is less.
func near() []string {
	return []string{"\x00", "\x00\x00", "\x00\xff", "\x01", "A", "a", "a\x00", "a\x00\x00", "aa", "b", long(127), long(128), "z", "\x7f", "\x80", "ä", "\xff", "\xff\x00", "\xff\xff"}
}

// N1: First is held against Last, and Last against the next First, byte by byte.
func TestRightComparesBytes(t *testing.T) {
	keys := near()
	for i, x := range keys {
		for j, y := range keys {
			if Right(one(2, 1, x, y)) != (i == j) || Right(one(2, 2, x, y)) != (i < j) || Right(one(2, 64, x, y)) != (i < j) {
				t.Errorf("%q to %q", x, y)
			}
			for level := range 4 {
				l := append(one(level, 1, x, x), one(level, 1, y, y)...)
				if held(t, l) != (level == 0 || i < j) {
					t.Errorf("%q, and %q behind it, of level %d", x, y, level)
				}
			}
		}
	}
}

// N1: levels do not fall.
func TestRightLevels(t *testing.T) {
	for a := range 4 {
		for b := range 4 {
			for c := range 4 {
				l := slices.Concat(one(a, 1, "a", "a"), one(b, 1, "b", "b"), one(c, 1, "c", "c"))
				if held(t, l) != (a <= b && b <= c) {
					t.Errorf("levels %d, %d, %d", a, b, c)
				}
			}
		}
	}
}

// N1: told list by list: neighbours of one level that touch, overlap or stand apart; those of unlike levels may overlap.
func TestRightNeighbours(t *testing.T) {
	for s, want := range map[string]bool{
		"1:a-b 1:c-d":             true,
		"1:a-b 1:b-c":             false,
		"1:a-b 1:ba-c":            true,
		"1:a-c 1:b-d":             false,
		"1:a-d 1:b-c":             false,
		"1:b-c 1:a-d":             false,
		"1:c-d 1:a-b":             false,
		"1:a-b 1:a-b":             false,
		"1:a-a 1:a-a":             false,
		"1:a-a 1:a-b":             false,
		"1:a-b 1:b-b":             false,
		"1:a-a 1:b-b":             true,
		"2:a-b 2:c-d":             true,
		"2:a-b 2:b-c":             false,
		"3:a-b 3:c-d":             true,
		"3:a-b 3:b-c":             false,
		"0:a-b 0:b-c":             true,
		"0:a-d 0:b-c":             true,
		"0:b-c 0:a-d":             true,
		"0:c-d 0:a-b":             true,
		"0:a-b 0:a-b":             true,
		"0:a-a 0:a-a":             true,
		"0:a-b 1:a-b":             true,
		"0:c-d 1:a-b":             true,
		"1:a-b 2:a-b":             true,
		"1:c-d 2:a-b":             true,
		"2:c-d 3:a-b":             true,
		"1:a-b 2:a-b 2:b-c":       false,
		"1:a-b 1:c-d 1:e-f":       true,
		"1:a-b 1:c-d 1:d-f":       false,
		"1:a-b 1:b-d 1:e-f":       false,
		"1:a-b 1:e-f 1:c-d":       false,
		"0:a-b 0:a-b 1:c-d":       true,
		"0:a-b 1:c-d 2:a-z 3:m-n": true,
		"3:a-b 2:c-d 1:e-f 0:g-h": false,
	} {
		if held(t, tables(s)) != want {
			t.Errorf("%s: not %v", s, want)
		}
	}
}

// N1: all lists of up to three of some tables.
func TestRightOfAllShortLists(t *testing.T) {
	var some []api.Table
	for level := -1; level <= 4; level++ {
		for _, ends := range []string{"a-a", "a-b", "b-b", "b-c", "c-c"} {
			x := tables("0:" + ends)[0]
			x.Level = level
			some = append(some, x)
		}
	}
	right := 0
	count := func(l ...api.Table) {
		if Right(l) != modelRight(l) {
			t.Fatalf("Right of %v", l)
		}
		if Right(l) {
			right++
		}
	}
	for _, x := range some {
		count(x)
		for _, y := range some {
			count(x, y)
			for _, z := range some {
				count(x, y, z)
			}
		}
	}
	if right < 1000 {
		t.Errorf("only %d right", right)
	}
}

// N1: all that a single table may be: each level and count, with ends of all lengths near the limits.
func TestRightOfAllSingles(t *testing.T) {
	for level := -1; level <= 4; level++ {
		for _, count := range []int{-1, 0, 1, 2, 63, 64, 65} {
			for _, first := range []int{0, 1, 2, 127, 128, 129} {
				for _, last := range []int{0, 1, 2, 127, 128, 129} {
					held(t, one(level, count, long(first), long(last)))
				}
			}
		}
	}
}

// drawn is a list by chance, right more often than not.
func drawn(next func(n int) int) []api.Table {
	var l []api.Table
	key, level := 0, 0
	for range next(12) {
		if next(4) == 0 && level < 3 {
			level++
			key = next(5)
		}
		key += 1 + next(9)
		x := api.Table{Level: level, Count: 1, Root: kept(fmt.Sprint(key, level), 256), First: fmt.Sprintf("%03d", key)}
		x.Last = x.First
		if next(3) > 0 {
			key += 1 + next(9)
			x.Count, x.Last = 2+next(63), fmt.Sprintf("%03d", key)
		}
		if level == 0 {
			key = next(60)
		}
		l = append(l, x)
	}
	if len(l) == 0 || next(3) > 0 {
		return l
	}
	at := next(len(l))
	switch next(6) {
	case 0:
		l[at].Level = next(6) - 1
	case 1:
		l[at].Count = next(67)
	case 2:
		l[at].First = strings.Repeat("0", next(200))
	case 3:
		l[at].Last = strings.Repeat("0", next(200))
	case 4:
		l[at] = l[next(len(l))]
	case 5:
		l[at].First, l[at].Last = l[at].Last, l[at].First
	}
	return l
}

// N1, N2: lists by chance.
func TestDrawn(t *testing.T) {
	r := rand.New(rand.NewPCG(14, 1))
	was := map[bool]int{}
	for range 5000 {
		was[held(t, drawn(r.IntN))]++
	}
	if was[true] < 1000 || was[false] < 500 {
		t.Errorf("right and not: %v", was)
	}
}

// N2: a byte 3, and behind it the summary, whatever that is.
func TestText(t *testing.T) {
	for _, s := range []string{"", "\x00", "\x03", "a", "summary", long(63), long(64), long(65), rawBytes(many(512)), strings.Repeat("\xff", 100000)} {
		in := []byte(s)
		if b := Text(in); string(b) != "\x03"+s || string(in) != s {
			t.Errorf("Text of %.90q: %.90q", s, b)
		}
	}
	if b := Text(nil); string(b) != "\x03" {
		t.Errorf("Text of nil: %x", b)
	}
}

// N2, what follows: unlike lists have unlike summaries, and unlike digests, if all bits are kept; of no bits all are one.
func TestDigestTellsListsApart(t *testing.T) {
	x := tables("0:a-k 1:b-b 1:c-f")
	lists := append(rights()[1:], tables("0:a-k 1:b-b"), tables("0:a-k 1:b-b 2:c-f"), tables("0:a-k 2:b-b 2:c-f"))
	for at := range x {
		root, first, last, count := slices.Clone(x), slices.Clone(x), slices.Clone(x), slices.Clone(x)
		root[at].Root[31] ^= 1
		first[at].First = "a\x00"
		first[at].Last, first[at].Count = "a\x01", 2
		last[at].Last, last[at].Count = x[at].Last+"\x00", 2
		count[at].Count, count[at].Last = 64, x[at].Last+"\x00"
		lists = append(lists, root, last, count)
		if at == 0 {
			lists = append(lists, first)
		}
	}
	of := map[api.Digest]int{}
	for i, l := range lists {
		d, err := Digest(256, l)
		if err != api.OK {
			t.Fatalf("Digest of %.300v: %v", l, err)
		}
		if k, is := of[d]; is {
			t.Errorf("one digest of %.300v and %.300v", l, lists[k])
		}
		of[d] = i
		if d, err := Digest(0, l); d != (api.Digest{}) || err != api.OK {
			t.Errorf("Digest of no bits: %x, %v", d, err)
		}
	}
}

// N2: the digest is that of the text of the bytes.
func TestDigestOfText(t *testing.T) {
	for _, l := range rights() {
		b, _ := Bytes(l)
		for _, bits := range keeps {
			if d, err := Digest(bits, l); err != api.OK || d != kept(string(Text(b)), bits) {
				t.Errorf("Digest of %d bits: %x, %v", bits, d, err)
			}
		}
	}
}

// R1: what is handed in stays as it was, its spare room with it, and what is answered is nobody else's.
func TestNothingIsShared(t *testing.T) {
	room := append(many(40), many(1)...)
	b, _ := Bytes(room[:40])
	other, _ := Bytes(room[:40])
	raw := rawBytes(many(40))
	Right(room[:40])
	Digest(256, room[:40])
	if !slices.Equal(room, append(many(40), many(1)...)) {
		t.Error("Bytes, Right or Digest changed its list")
	}
	clear(room)
	if string(b) != raw {
		t.Error("the bytes hang on their list")
	}
	clear(b)
	if string(other) != raw {
		t.Error("two summaries hang together")
	}

	wide := []byte("spare" + raw + "spare")
	n := len(wide) - 5
	l, err := Parse(wide[5:n])
	again, _ := Parse(wide[5:n])
	text := Text(wide[5:n])
	if err != api.OK || string(wide) != "spare"+raw+"spare" {
		t.Error("Parse or Text changed its bytes")
	}
	for i := range wide {
		wide[i] = 0xaa
	}
	if !slices.Equal(l, many(40)) || string(text) != "\x03"+raw {
		t.Error("what is read hangs on its bytes")
	}
	clear(l)
	if !slices.Equal(again, many(40)) {
		t.Error("two lists hang together")
	}
	in := []byte(raw)
	clear(Text(in))
	if string(in) != raw {
		t.Error("a text written over changes its summary")
	}
}

// R4: asked again, the same is answered.
func TestAgain(t *testing.T) {
	for range 3 {
		for _, l := range append(rights(), wrongs()...) {
			held(t, l)
		}
		check(t, rawBytes(many(512)))
		check(t, "\x01")
	}
}
