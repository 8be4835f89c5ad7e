package codec

import (
	"bytes"
	"encoding/binary"
	"math"
	"strings"
	"testing"
)

// rep is n times the byte c, and behind them those of rest.
func rep(n int, c byte, rest ...byte) []byte {
	return append(bytes.Repeat([]byte{c}, n), rest...)
}

// edges are the numbers around each power of two.
func edges() []uint64 {
	l := []uint64{0, math.MaxUint64}
	for i := range 64 {
		p := uint64(1) << i
		l = append(l, p-1, p, p+1)
	}
	return l
}

// spread are n numbers of all sizes, the same ones each time.
func spread(n int) []uint64 {
	var l []uint64
	x := uint64(88172645463325252)
	for i := range n {
		x ^= x << 13
		x ^= x >> 7
		x ^= x << 17
		l = append(l, x>>(i%64))
	}
	return l
}

var written = []struct {
	v uint64
	b []byte
}{
	{0, []byte{0}},
	{1, []byte{1}},
	{127, []byte{0x7f}},
	{128, []byte{0x80, 1}},
	{300, []byte{0xac, 2}},
	{16383, []byte{0xff, 0x7f}},
	{16384, []byte{0x80, 0x80, 1}},
	{1<<56 - 1, rep(7, 0xff, 0x7f)},
	{1 << 56, rep(8, 0x80, 1)},
	{1<<63 - 1, rep(8, 0xff, 0x7f)},
	{1 << 63, rep(9, 0x80, 1)},
	{math.MaxUint64, rep(9, 0xff, 1)},
}

// A1.
func TestPut(t *testing.T) {
	for _, w := range written {
		if b := Put(nil, w.v); !bytes.Equal(b, w.b) {
			t.Errorf("Put(nil, %d) = % x, not % x", w.v, b, w.b)
		}
		if b := Put([]byte{9, 0x80}, w.v); !bytes.Equal(b, append([]byte{9, 0x80}, w.b...)) {
			t.Errorf("Put(09 80, %d) = % x", w.v, b)
		}
	}
	for _, v := range append(edges(), spread(5000)...) {
		if b := Put([]byte{}, v); !bytes.Equal(b, binary.AppendUvarint(nil, v)) {
			t.Errorf("Put of %d = % x", v, b)
		}
	}
}

// A1.
func TestSize(t *testing.T) {
	for _, w := range written {
		if n := Size(w.v); n != len(w.b) {
			t.Errorf("Size(%d) = %d, not %d", w.v, n, len(w.b))
		}
	}
	for _, v := range append(edges(), spread(5000)...) {
		if n := Size(v); n != len(binary.AppendUvarint(nil, v)) {
			t.Errorf("Size(%d) = %d", v, n)
		}
	}
}

// A1: what is put is got, whatever stands behind.
func TestGetWhatWasPut(t *testing.T) {
	for _, v := range append(edges(), spread(5000)...) {
		b := Put(nil, v)
		for _, behind := range [][]byte{nil, {0}, {1}, {0x80}, {0xff}, rep(12, 0xff), rep(12, 0)} {
			got, n, ok := Get(append(b[:len(b):len(b)], behind...))
			if got != v || n != len(b) || !ok {
				t.Errorf("Get of % x, % x behind it: %d %d %v, not %d", b, behind, got, n, ok, v)
			}
		}
	}
}

// A1: a number cut ahead of its last byte is none.
func TestGetOfWhatIsCut(t *testing.T) {
	for _, v := range edges() {
		b := Put(nil, v)
		for n := range b {
			noNumber(t, b[:n])
		}
	}
}

// A1.
func TestGetOfWhatIsNoNumber(t *testing.T) {
	noNumber(t, nil)
	noNumber(t, []byte{})
	for n := 1; n <= 12; n++ {
		noNumber(t, rep(n, 0x80))       // ends ahead of the last one, or more than ten
		noNumber(t, rep(n, 0xff))       // likewise
		noNumber(t, rep(n, 0x80, 0))    // the last one of several is 0
		noNumber(t, rep(n, 0xff, 0))    // likewise
		noNumber(t, rep(n, 0x80, 0, 1)) // likewise, and something behind it
	}
	for n := 10; n <= 12; n++ {
		noNumber(t, rep(n, 0x80, 1)) // more than ten
		noNumber(t, rep(n, 0xff, 1))
	}
	for c := 2; c < 256; c++ {
		noNumber(t, rep(9, 0x80, byte(c))) // the tenth is above 1
		noNumber(t, rep(9, 0xff, byte(c), 1))
	}
}

func noNumber(t *testing.T, b []byte) {
	t.Helper()
	if v, n, ok := Get(b); v != 0 || n != 0 || ok {
		t.Errorf("Get of % x: %d %d %v, not 0 0 false", b, v, n, ok)
	}
	if s, n, ok := Text(b); s != "" || n != 0 || ok {
		t.Errorf("Text of % x: %q %d %v, not nothing", b, s, n, ok)
	}
}

// A1: of each number there is one way to write it; of three bytes all are asked.
func TestOneWayToWriteANumber(t *testing.T) {
	for x := range 1 << 24 {
		b := [3]byte{byte(x >> 16), byte(x >> 8), byte(x)}
		v, n, ok := Get(b[:])
		if ok != oneIsThere(b[:]) {
			t.Fatalf("Get of % x: %v", b, ok)
		}
		if !ok {
			continue
		}
		if want, wn := binary.Uvarint(b[:]); v != want || n != wn || Size(v) != n {
			t.Fatalf("Get of % x: %d %d, Size %d", b, v, n, Size(v))
		}
	}
}

// oneIsThere tells whether b, of at most nine bytes, begins with a number's.
func oneIsThere(b []byte) bool {
	for i, c := range b {
		if c < 0x80 {
			return i == 0 || c != 0
		}
	}
	return false
}

// A2.
func TestPutText(t *testing.T) {
	for _, w := range []struct{ s, b string }{
		{"", "\x00"},
		{"ab", "\x02ab"},
		{"\x00", "\x01\x00"},
		{"\xff\x80", "\x02\xff\x80"},
		{strings.Repeat("x", 127), "\x7f" + strings.Repeat("x", 127)},
		{strings.Repeat("x", 128), "\x80\x01" + strings.Repeat("x", 128)},
		{strings.Repeat("x", 16384), "\x80\x80\x01" + strings.Repeat("x", 16384)},
	} {
		if b := PutText(nil, w.s); string(b) != w.b {
			t.Errorf("PutText of %d bytes: %.20q", len(w.s), b)
		}
		if b := PutText([]byte("go"), w.s); string(b) != "go"+w.b {
			t.Errorf("PutText of %d bytes behind go: %.20q", len(w.s), b)
		}
	}
}

// texts are some of many lengths, of all bytes.
func texts() []string {
	var l []string
	for _, n := range []int{0, 1, 2, 3, 126, 127, 128, 129, 255, 256, 300, 16383, 16384, 70000} {
		b := make([]byte, n)
		for i := range b {
			b[i] = byte(n + 7*i)
		}
		l = append(l, string(b))
	}
	return l
}

// A2: what is put is got, whatever stands behind.
func TestTextThatWasPut(t *testing.T) {
	for _, s := range texts() {
		for _, behind := range []string{"", "\x00", "\x80", "\xff\xff", "abc"} {
			b := PutText(nil, s)
			got, n, ok := Text(append(b, behind...))
			if got != s || n != len(s)+Size(uint64(len(s))) || !ok {
				t.Errorf("Text of %d bytes and %q: %d bytes, %d, %v", len(s), behind, len(got), n, ok)
			}
		}
	}
}

// A2: a text that is shorter than its number says is none.
func TestTextThatIsCut(t *testing.T) {
	for _, s := range texts() {
		b := PutText(nil, s)
		for n := 0; n < len(b); n += 1 + n/300 {
			noText(t, b[:n])
		}
		noText(t, b[:len(b)-1])
	}
}

// A2: numbers of bytes that no text has, those among them that are no int.
func TestTextThatIsTooLong(t *testing.T) {
	for _, v := range append(edges(), math.MaxUint64-1, math.MaxUint64-9, math.MaxInt64-8, math.MaxInt64-9) {
		b := Put(nil, v)
		if v > 0 {
			noText(t, b)
		}
		if v > 3 {
			noText(t, append(b, "abc"...))
		}
	}
}

// A2: there is no text where there is no number, whatever stands behind.
func TestTextWithoutNumber(t *testing.T) {
	for _, b := range [][]byte{nil, {}, {0x80}, {0x80, 0}, {0x81, 0, 'a'}, rep(9, 0x80, 2), rep(10, 0x80, 1), rep(40, 0x80)} {
		noText(t, b)
	}
}

func noText(t *testing.T, b []byte) {
	t.Helper()
	if s, n, ok := Text(b); s != "" || n != 0 || ok {
		t.Errorf("Text of %.20q (%d bytes): %.20q %d %v, not nothing", b, len(b), s, n, ok)
	}
}

// A3.
func TestPutFixed(t *testing.T) {
	for _, w := range []struct {
		v uint32
		b string
	}{
		{0, "\x00\x00\x00\x00"},
		{1, "\x00\x00\x00\x01"},
		{70000, "\x00\x01\x11\x70"},
		{0x01020304, "\x01\x02\x03\x04"},
		{0x80000000, "\x80\x00\x00\x00"},
		{math.MaxUint32, "\xff\xff\xff\xff"},
	} {
		if b := PutFixed(nil, w.v); string(b) != w.b {
			t.Errorf("PutFixed of %d: % x", w.v, b)
		}
		if b := PutFixed([]byte("go"), w.v); string(b) != "go"+w.b {
			t.Errorf("PutFixed of %d behind go: % x", w.v, b)
		}
		for _, behind := range []string{"", "\x00", "\xff", "abcde"} {
			if v, ok := Fixed([]byte(w.b + behind)); v != w.v || !ok {
				t.Errorf("Fixed of % x: %d %v", w.b+behind, v, ok)
			}
		}
	}
	for _, v := range spread(5000) {
		b := PutFixed(nil, uint32(v))
		if !bytes.Equal(b, binary.BigEndian.AppendUint32(nil, uint32(v))) {
			t.Errorf("PutFixed of %d: % x", uint32(v), b)
		}
		if w, ok := Fixed(b); w != uint32(v) || !ok {
			t.Errorf("Fixed of % x: %d %v", b, w, ok)
		}
	}
}

// A3: less than four bytes tell nothing, whatever stands in the room behind them.
func TestFixedOfLess(t *testing.T) {
	all := []byte{1, 2, 3, 4}
	for n := range 4 {
		for _, b := range [][]byte{all[:n], all[:n:n]} {
			if v, ok := Fixed(b); v != 0 || ok {
				t.Errorf("Fixed of % x: %d %v", b, v, ok)
			}
		}
	}
	if v, ok := Fixed(nil); v != 0 || ok {
		t.Errorf("Fixed of nothing: %d %v", v, ok)
	}
}

var puts = []struct {
	name string
	put  func(b []byte, long bool) []byte
}{
	{"Put", func(b []byte, long bool) []byte {
		if long {
			return Put(b, math.MaxUint64)
		}
		return Put(b, 5)
	}},
	{"PutText", func(b []byte, long bool) []byte {
		if long {
			return PutText(b, "some text")
		}
		return PutText(b, "")
	}},
	{"PutFixed", func(b []byte, long bool) []byte {
		if long {
			return PutFixed(b, math.MaxUint32)
		}
		return PutFixed(b, 5)
	}},
}

// A1, A2, A3 (R1): what is handed in stays as it was, the room behind it too.
func TestPutsLeaveWhatIsHandedIn(t *testing.T) {
	for _, p := range puts {
		for _, long := range []bool{false, true} {
			for n := range 20 {
				room := rep(40, 'r')
				p.put(room[:n], long)
				if !bytes.Equal(room, rep(40, 'r')) {
					t.Errorf("%s behind %d bytes has written there: %q", p.name, n, room)
				}
			}
		}
	}
}

// A1, A2, A3 (R1): an answer is new memory, that neither what was handed in nor another answer shares.
func TestPutsAnswerNewMemory(t *testing.T) {
	for _, p := range puts {
		for _, long := range []bool{false, true} {
			for n := range 20 {
				room := rep(40, 'r')
				one, two := p.put(room[:n], long), p.put(room[:n], long)
				want := string(two)
				clear(one[:cap(one)])
				if !bytes.Equal(room, rep(40, 'r')) || string(two) != want {
					t.Errorf("%s behind %d bytes: the answer is shared", p.name, n)
				}
				clear(room)
				if string(two) != want {
					t.Errorf("%s behind %d bytes: what was handed in is kept", p.name, n)
				}
			}
		}
	}
}

// A1, A2, A3 (R1): reading changes nothing, and a text that was told is not changed by who owns the bytes.
func TestReadsLeaveAndKeepNothing(t *testing.T) {
	b := PutText(nil, "some text, and more")
	was := string(b)
	Get(b)
	Fixed(b)
	s, _, _ := Text(b)
	if string(b) != was {
		t.Errorf("read, it is %q", b)
	}
	clear(b)
	if s != "some text, and more" {
		t.Errorf("the text has become %q", s)
	}
}

// A1, A2, A3 (R2, What follows): whatever the bytes are, no call panics, and what is read is written so alone.
func FuzzReads(f *testing.F) {
	for _, w := range written {
		f.Add(w.b)
	}
	for _, s := range []string{"", "\x80", "\x80\x00", "\x02ab", "\x03ab", "\xff\xff\xff\xff\xff\xff\xff\xff\xff\x02", "\x00\x01\x11\x70"} {
		f.Add([]byte(s))
	}
	f.Fuzz(func(t *testing.T, b []byte) {
		was := string(b)
		if v, n, ok := Get(b); ok && string(Put(nil, v)) != was[:n] {
			t.Errorf("Get of % x: %d %d", b, v, n)
		}
		if s, n, ok := Text(b); ok && string(PutText(nil, s)) != was[:n] {
			t.Errorf("Text of % x: %q %d", b, s, n)
		}
		if v, ok := Fixed(b); ok && string(PutFixed(nil, v)) != was[:4] {
			t.Errorf("Fixed of % x: %d", b, v)
		}
		if string(b) != was {
			t.Errorf("% x was changed to % x", was, b)
		}
	})
}
