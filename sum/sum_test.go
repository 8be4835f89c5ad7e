package sum

import (
	"bytes"
	"crypto/sha256"
	"encoding"
	"encoding/hex"
	"hash/crc32"
	"math"
	"math/big"
	"strings"
	"testing"

	"marlstone/api"
)

// some are n bytes, the same ones each time.
func some(n int) []byte {
	b := make([]byte, n)
	x := uint32(2463534242)
	for i := range b {
		x ^= x << 13
		x ^= x >> 17
		x ^= x << 5
		b[i] = byte(x)
	}
	return b
}

// lengths are those around a block's, around 56 modulo 64, and longer ones.
func lengths() []int {
	l := []int{1000, 4095, 4096, 65535, 65537, 200000}
	for n := range 330 {
		l = append(l, n)
	}
	return l
}

func digest(t *testing.T, digits string) api.Digest {
	t.Helper()
	b, err := hex.DecodeString(strings.ReplaceAll(digits, " ", ""))
	if err != nil || len(b) != 32 {
		t.Fatalf("no digest: %q", digits)
	}
	return api.Digest(b)
}

// told are sums that the chapter and the standard's own examples tell.
var told = []struct{ text, sum string }{
	{"", "e3b0c442 98fc1c14 9afbf4c8 996fb924 27ae41e4 649b934c a495991b 7852b855"},
	{"abc", "ba7816bf 8f01cfea 414140de 5dae2223 b00361a3 96177a9c b410ff61 f20015ad"},
	{"abcdbcdecdefdefgefghfghighijhijkijkljklmklmnlmnomnopnopq",
		"248d6a61 d20638b8 e5c02693 0c3e6039 a33ce459 64ff2167 f6ecedd4 19db06c1"},
	{strings.Repeat("a", 1000000), "cdc76e5c 9914fb92 81a1c7e2 84d73e67 f1809a48 a497200e 046d39cc c7112cd0"},
}

// B1.
func TestOfWhatIsTold(t *testing.T) {
	for _, w := range told {
		if d := Of([]byte(w.text)); d != digest(t, w.sum) {
			t.Errorf("Of %.10q (%d bytes): %x", w.text, len(w.text), d)
		}
	}
	if Of(nil) != Of([]byte{}) {
		t.Errorf("Of nil and of nothing are unlike")
	}
}

// B1: the lengths at which the end goes to a block of its own (55, 56, 63, 64, 65, 119, 120, 128) are among them.
func TestOfAllLengths(t *testing.T) {
	for _, n := range lengths() {
		for _, b := range [][]byte{some(n), make([]byte, n), bytes.Repeat([]byte{0xff}, n), bytes.Repeat([]byte{0x80}, n)} {
			if d := Of(b); d != api.Digest(sha256.Sum256(b)) {
				t.Errorf("Of %d bytes %.3x..: %x", n, b, d)
			}
		}
	}
}

// B1: zeros at the end, and a bit anywhere, make another sum.
func TestOfUnlikeTexts(t *testing.T) {
	seen := map[api.Digest]int{}
	for n := range 200 {
		d := Of(make([]byte, n))
		if k, ok := seen[d]; ok {
			t.Errorf("%d and %d zeros have one sum", k, n)
		}
		seen[d] = n
	}
	b := some(130)
	for i := range 8 * len(b) {
		b[i/8] ^= 1 << (i % 8)
		d := Of(b)
		if _, ok := seen[d]; ok || d != api.Digest(sha256.Sum256(b)) {
			t.Errorf("bit %d turned: %x", i, d)
		}
		seen[d] = -1 - i
		b[i/8] ^= 1 << (i % 8)
	}
}

// primes are the first n.
func primes(n int) []int64 {
	var l []int64
	for p := int64(2); len(l) < n; p++ {
		if big.NewInt(p).ProbablyPrime(0) {
			l = append(l, p)
		}
	}
	return l
}

// rootBits is the first 32 bits behind the point of the root of p, of that degree (2 or 3).
func rootBits(p int64, degree int) uint32 {
	want := new(big.Int).Lsh(big.NewInt(p), uint(32*degree))
	lo, hi := big.NewInt(0), new(big.Int).Lsh(big.NewInt(p), 32)
	for one := big.NewInt(1); lo.Cmp(hi) < 0; {
		mid := new(big.Int).Add(lo, hi)
		mid.Add(mid, one).Rsh(mid, 1)
		if new(big.Int).Exp(mid, big.NewInt(int64(degree)), nil).Cmp(want) <= 0 {
			lo = mid
		} else {
			hi = mid.Sub(mid, one)
		}
	}
	return uint32(lo.Uint64())
}

// B1: the words that it begins with, and those of the 64 steps, are the roots'.
func TestRoots(t *testing.T) {
	for i, p := range primes(64) {
		if r := rootBits(p, 3); cubeRoots[i] != r {
			t.Errorf("cube root of %d: %x, not %x", p, cubeRoots[i], r)
		}
		if i < 8 && squareRoots()[i] != rootBits(p, 2) {
			t.Errorf("square root of %d: %x", p, squareRoots()[i])
		}
	}
}

// B1: bits at each number, below 0 and above 256 among them.
func TestKept(t *testing.T) {
	for _, n := range []int{0, 3, 64, 200} {
		b := some(n)
		whole := sha256.Sum256(b)
		for bits := -300; bits <= 600; bits++ {
			var want api.Digest
			for i := range want {
				for k := range 8 {
					if 8*i+k < bits {
						want[i] |= whole[i] & (0x80 >> k)
					}
				}
			}
			if d := Kept(b, bits); d != want {
				t.Errorf("Kept of %d bytes, %d: %x, not %x", n, bits, d, want)
			}
		}
	}
}

// B1.
func TestKeptEdges(t *testing.T) {
	abc := []byte("abc")
	for _, w := range []struct {
		bits int
		want api.Digest
	}{
		{math.MinInt, api.Digest{}}, {math.MinInt + 255, api.Digest{}}, {math.MinInt64 + 9, api.Digest{}},
		{math.MinInt32, api.Digest{}}, {-8, api.Digest{}}, {-1, api.Digest{}}, {0, api.Digest{}},
		{1, api.Digest{0x80}}, {3, api.Digest{0xa0}}, {4, api.Digest{0xb0}}, {7, api.Digest{0xba}},
		{8, api.Digest{0xba}}, {9, api.Digest{0xba}}, {10, api.Digest{0xba, 0x40}}, {12, api.Digest{0xba, 0x70}},
		{16, api.Digest{0xba, 0x78}}, {20, api.Digest{0xba, 0x78, 0x10}},
		{256, Of(abc)}, {257, Of(abc)}, {264, Of(abc)}, {512, Of(abc)}, {math.MaxInt32, Of(abc)}, {math.MaxInt, Of(abc)},
	} {
		if d := Kept(abc, w.bits); d != w.want {
			t.Errorf("Kept of abc, %d: %x, not %x", w.bits, d, w.want)
		}
	}
	last := Of(abc)
	last[31] &= 0xfe
	if d := Kept(abc, 255); d != last {
		t.Errorf("Kept of abc, 255: %x", d)
	}
}

// B1: so that two texts with one sum can be found.
func TestKeptHasClashes(t *testing.T) {
	seen := map[api.Digest]bool{}
	for i := range 600 {
		seen[Kept([]byte{byte(i >> 8), byte(i)}, 6)] = true
	}
	if len(seen) != 64 {
		t.Errorf("600 texts have %d sums of six bits", len(seen))
	}
}

// B1: nothing is written.
func TestNew(t *testing.T) {
	if d := New().Sum(); d != digest(t, told[0].sum) {
		t.Errorf("Sum of nothing: %x", d)
	}
	h := New()
	h.Write(nil)
	h.Write([]byte{})
	if d := h.Sum(); d != digest(t, told[0].sum) {
		t.Errorf("Sum of two empty pieces: %x", d)
	}
}

// B1: cut anywhere, with a Sum asked at the cut.
func TestTwoPieces(t *testing.T) {
	b := some(200)
	want := api.Digest(sha256.Sum256(b))
	for n := range len(b) + 1 {
		h := New()
		h.Write(b[:n])
		if d := h.Sum(); d != api.Digest(sha256.Sum256(b[:n])) {
			t.Errorf("Sum of the first %d: %x", n, d)
		}
		h.Write(nil)
		h.Write(b[n:])
		if one, two := h.Sum(), h.Sum(); one != want || two != want {
			t.Errorf("cut at %d: %x, then %x", n, one, two)
		}
	}
}

// B1: pieces of each size, and Sum twice behind each of them.
func TestEqualPieces(t *testing.T) {
	b := some(700)
	for size := 1; size <= 270; size++ {
		h := New()
		for from := 0; from < len(b); from += size {
			to := min(from+size, len(b))
			h.Write(b[from:to])
			h.Write(b[to:to])
			if one, two := h.Sum(), h.Sum(); one != two || one != api.Digest(sha256.Sum256(b[:to])) {
				t.Fatalf("pieces of %d, the first %d: %x, then %x", size, to, one, two)
			}
		}
	}
}

// B1: pieces of all kinds, empty ones among them, with and without a Sum between.
func TestMixedPieces(t *testing.T) {
	sizes := []int{0, 1, 63, 64, 65, 0, 0, 55, 56, 1, 119, 120, 128, 0, 129, 8, 9, 4096, 5, 0}
	total := 0
	for _, n := range sizes {
		total += n
	}
	b := some(total)
	quiet, asked := New(), New()
	from := 0
	for _, n := range sizes {
		quiet.Write(b[from : from+n])
		asked.Write(b[from : from+n])
		from += n
		if d := asked.Sum(); d != Of(b[:from]) {
			t.Errorf("the first %d: %x", from, d)
		}
	}
	if one, two := quiet.Sum(), asked.Sum(); one != two || one != api.Digest(sha256.Sum256(b)) {
		t.Errorf("not asked %x, asked %x", one, two)
	}
}

// B1 (R3): Hashes at a time have nothing to do with each other.
func TestTwoHashes(t *testing.T) {
	one, two := New(), New()
	a, b := some(500), bytes.Repeat([]byte("marl"), 125)
	for i := 0; i < 500; i += 20 {
		one.Write(a[i : i+20])
		if d := two.Sum(); d != api.Digest(sha256.Sum256(b[:i])) {
			t.Errorf("two, %d written: %x", i, d)
		}
		two.Write(b[i : i+20])
		if d := one.Sum(); d != api.Digest(sha256.Sum256(a[:i+20])) {
			t.Errorf("one, %d written: %x", i+20, d)
		}
	}
	if d := New().Sum(); d != digest(t, told[0].sum) {
		t.Errorf("a new one beside them: %x", d)
	}
}

// B1: the length has more than 32 bits; a text so long is put in by hand, at a block's end.
func TestLongLength(t *testing.T) {
	for _, length := range []uint64{1 << 28, 1<<29 - 64, 1 << 29, 1<<31 - 64, 1 << 34} {
		other := sha256.New()
		state, err := other.(encoding.BinaryMarshaler).MarshalBinary()
		if err != nil {
			t.Fatal(err)
		}
		for i := range 8 {
			state[len(state)-1-i] = byte(length >> (8 * i))
		}
		if err := other.(encoding.BinaryUnmarshaler).UnmarshalBinary(state); err != nil {
			t.Fatal(err)
		}
		other.Write([]byte("some more"))
		h := New()
		h.length = length
		h.Write([]byte("some more"))
		if d := h.Sum(); !bytes.Equal(d[:], other.Sum(nil)) {
			t.Errorf("behind %d bytes: %x", length, d)
		}
	}
}

// B1, B2 (R1): what is handed in stays as it was, the room behind it too.
func TestWhatIsHandedInStays(t *testing.T) {
	for n := range 200 {
		room := some(400)
		b := room[:n]
		Of(b)
		Kept(b, 9)
		CRC(b)
		h := New()
		h.Write(b)
		h.Sum()
		h.Write(b)
		h.Sum()
		if !bytes.Equal(room, some(400)) {
			t.Errorf("%d bytes handed in are written over", n)
		}
	}
}

// B1 (R1): who owns what was written may write over it.
func TestWhatIsWrittenIsNotKept(t *testing.T) {
	for n := range 200 {
		b := some(n)
		h := New()
		h.Write(b)
		clear(b)
		if h.Sum() != Of(some(n)) {
			t.Errorf("%d bytes, written over, are summed as they are now", n)
		}
	}
}

// B1 (R1): an answer that is written over changes nothing within.
func TestAnswersAreNotKept(t *testing.T) {
	h := New()
	h.Write([]byte("abc"))
	d := h.Sum()
	clear(d[:])
	if d = h.Sum(); d != digest(t, told[1].sum) {
		t.Errorf("Sum once more: %x", d)
	}
	d = Of(nil)
	clear(d[:])
	if d = Of(nil); d != digest(t, told[0].sum) {
		t.Errorf("Of nothing once more: %x", d)
	}
}

// B2.
func TestCRC(t *testing.T) {
	for _, w := range []struct {
		text string
		want uint32
	}{
		{"", 0}, {"123456789", 0xcbf43926}, {"a", 0xe8b7be43}, {"\x00", 0xd202ef8d}, {"\xff", 0xff000000},
		{"\xff\xff\xff\xff", 0xffffffff}, {"\x00\x00\x00\x00", 0x2144df1c},
	} {
		if c := CRC([]byte(w.text)); c != w.want {
			t.Errorf("CRC of %q: %x, not %x", w.text, c, w.want)
		}
	}
	if CRC(nil) != 0 {
		t.Errorf("CRC of nil: %x", CRC(nil))
	}
	for _, n := range lengths() {
		for _, b := range [][]byte{some(n), make([]byte, n), bytes.Repeat([]byte{0xff}, n)} {
			if c := CRC(b); c != crc32.ChecksumIEEE(b) {
				t.Errorf("CRC of %d bytes %.3x..: %x", n, b, c)
			}
		}
	}
}

// B2: each byte alone, and each pair.
func TestCRCOfAllShort(t *testing.T) {
	for x := range 1 << 16 {
		b := []byte{byte(x >> 8), byte(x)}
		if CRC(b) != crc32.ChecksumIEEE(b) || CRC(b[1:]) != crc32.ChecksumIEEE(b[1:]) {
			t.Fatalf("CRC of % x: %x, of the last %x", b, CRC(b), CRC(b[1:]))
		}
	}
}

// B2 (What follows): up to 32 bits that stand together, turned, make another CRC.
func TestCRCOfTurnedBits(t *testing.T) {
	b := some(24)
	was := CRC(b)
	for from := range 8 * len(b) {
		for width := 1; width <= 32 && from+width <= 8*len(b); width++ {
			for _, inner := range []uint32{0, 0xffffffff, 0x55555555, 0xedb88320, 0x2a3c91f7} {
				turned := turn(b, from, width, inner)
				if bytes.Equal(turned, b) {
					t.Fatalf("nothing is turned")
				}
				if CRC(turned) == was {
					t.Errorf("%d bits from %d on turned by %x: the same CRC", width, from, inner)
				}
			}
		}
	}
}

// turn is b with the first and the last of width bits from a place on turned, and those of inner between them.
func turn(b []byte, from, width int, inner uint32) []byte {
	out := bytes.Clone(b)
	for i := range width {
		if i == 0 || i == width-1 || inner>>i&1 == 1 {
			out[(from+i)/8] ^= 1 << ((from + i) % 8)
		}
	}
	return out
}

// B3.
func TestHex(t *testing.T) {
	if s := Hex(api.Digest{}); s != strings.Repeat("0", 64) {
		t.Errorf("Hex of zeros: %s", s)
	}
	if s := Hex(Of([]byte("abc"))); s != strings.ReplaceAll(told[1].sum, " ", "") {
		t.Errorf("Hex of the sum of abc: %s", s)
	}
	if s := Hex(api.Digest{0x01, 0x23, 0x45, 0x67, 0x89, 0xab, 0xcd, 0xef, 31: 0xf0}); s != "0123456789abcdef"+strings.Repeat("0", 46)+"f0" {
		t.Errorf("Hex: %s", s)
	}
	for at := range 32 {
		for c := range 256 {
			d := Of([]byte{byte(at)})
			d[at] = byte(c)
			if s := Hex(d); s != hex.EncodeToString(d[:]) {
				t.Errorf("Hex of %v: %s", d, s)
			}
		}
	}
}

// B1, B2, B3 (R2): whatever the bytes and the cuts are.
func FuzzSums(f *testing.F) {
	for _, n := range []int{0, 1, 55, 56, 63, 64, 65, 119, 120, 128, 300} {
		f.Add(some(n), n/3, n/2)
	}
	f.Fuzz(func(t *testing.T, b []byte, bits, cut int) {
		cut = min(max(cut, 0), len(b))
		h := New()
		h.Write(b[:cut])
		h.Sum()
		h.Write(b[cut:])
		want := api.Digest(sha256.Sum256(b))
		if Of(b) != want || h.Sum() != want || Hex(Of(b)) != hex.EncodeToString(want[:]) {
			t.Errorf("sum of %x: %x", b, Of(b))
		}
		if CRC(b) != crc32.ChecksumIEEE(b) {
			t.Errorf("CRC of %x: %x", b, CRC(b))
		}
		for i, c := range Kept(b, bits) {
			if diff := c ^ want[i]; i < bits/8 && diff != 0 || i > bits/8 && c != 0 {
				t.Errorf("Kept of %x, %d: byte %d is %x", b, bits, i, c)
			}
		}
	})
}
