package frame

import (
	"bytes"
	"encoding/hex"
	"fmt"
	"slices"
	"strings"
	"testing"

	"marlstone/api"
)

// some is a text of n bytes, the same ones each time.
func some(n int) string {
	b := make([]byte, n)
	x := uint32(2463534242)
	for i := range b {
		x ^= x << 13
		x ^= x >> 17
		x ^= x << 5
		b[i] = byte(x)
	}
	return string(b)
}

// bytesOf are those that the digits tell.
func bytesOf(t *testing.T, digits string) []byte {
	t.Helper()
	b, err := hex.DecodeString(strings.ReplaceAll(digits, " ", ""))
	if err != nil {
		t.Fatalf("no digits: %q", digits)
	}
	return b
}

// short is what a failed test shows of long bytes.
func short[T string | []byte](b T) string {
	if len(b) > 40 {
		return fmt.Sprintf("%x.. (%d bytes)", b[:40], len(b))
	}
	return fmt.Sprintf("%x", b)
}

// puts holds Put of out and body against what it should answer.
func puts(t *testing.T, out, body []byte, want string) {
	t.Helper()
	if b, e := Put(out, body); string(b) != want || e != api.OK {
		t.Errorf("Put of %s and %s: %s %v, not %s", short(out), short(body), short(b), e, short(want))
	}
}

// nexts holds Next of b against what it should answer.
func nexts(t *testing.T, b []byte, want string, n int, err api.Errno) {
	t.Helper()
	if body, k, e := Next(b); string(body) != want || k != n || e != err {
		t.Errorf("Next of %s: %s %d %v, not %s %d %v", short(b), short(body), k, e, short(want), n, err)
	}
}

// refused tells that Next of b says err, and nothing else.
func refused(t *testing.T, b []byte, err api.Errno) {
	t.Helper()
	nexts(t, b, "", 0, err)
}

// asTexts are the bodies, so that they can be compared.
func asTexts(bodies [][]byte) []string {
	var l []string
	for _, b := range bodies {
		l = append(l, string(b))
	}
	return l
}

// alls holds All of b against what it should answer.
func alls(t *testing.T, b []byte, want []string, n int, err api.Errno) {
	t.Helper()
	if l, k, e := All(b); !slices.Equal(asTexts(l), want) || k != n || e != err {
		t.Errorf("All of %s: %d bodies, %d %v, not %d, %d %v", short(b), len(l), k, e, len(want), n, err)
	}
}

// asModel holds Next and All of b against the model.
func asModel(t *testing.T, b []byte) {
	t.Helper()
	body, n, e := modelNext(string(b))
	nexts(t, b, body, n, e)
	bodies, n, e := modelAll(string(b))
	alls(t, b, bodies, n, e)
}

// turned is b with the bits of mask turned in its i-th byte.
func turned(b []byte, i int, mask byte) []byte {
	c := bytes.Clone(b)
	c[i] ^= mask
	return c
}

// someBodies are those of the lengths that tell something, with zeros and with what looks like frames among them.
func someBodies() []string {
	l := []string{"", "\x00", "a", "\xff", "\x00\x00\x00\x00", string(framed("")), string(framed("a")), string(row("x", "", "yz"))}
	for _, n := range []int{2, 3, 4, 7, 8, 9, 100, 255, 256, 257, 1000, 65535, MaxFrame} {
		l = append(l, some(n), strings.Repeat("\x00", n))
	}
	return l
}

// fewBodies are short ones, and not many.
func fewBodies() []string { return []string{"a", "", "bc", "\x00", some(20), "", ""} }

// H1 to H3: the chapter's examples, with the CRCs written out.
func TestExamples(t *testing.T) {
	if MaxFrame != 65536 {
		t.Errorf("MaxFrame is %d", MaxFrame)
	}
	a := bytesOf(t, "00 00 00 01 e5 8c 97 92 61")
	puts(t, nil, []byte("a"), string(a))
	nexts(t, a, "a", 9, api.OK)
	alls(t, a, []string{"a"}, 9, api.OK)
	empty := bytesOf(t, "00 00 00 00 21 44 df 1c")
	puts(t, nil, nil, string(empty))
	nexts(t, empty, "", 8, api.OK)
	alls(t, empty, []string{""}, 8, api.OK)
	refused(t, bytesOf(t, "00 00 00"), api.ErrNone)
	refused(t, bytesOf(t, "00 01 00 01"), api.ErrForm)
	refused(t, make([]byte, 8), api.ErrForm)
}

// H1: bodies of all lengths, behind nothing and behind some bytes.
func TestPut(t *testing.T) {
	for _, body := range someBodies() {
		for _, out := range []string{"", "x", "some bytes", some(1000), string(framed("a"))} {
			puts(t, []byte(out), []byte(body), out+string(framed(body)))
		}
		puts(t, nil, []byte(body), string(framed(body)))
	}
	puts(t, nil, nil, string(framed("")))
	puts(t, []byte{}, []byte{}, string(framed("")))
}

// H1: a body of MaxFrame bytes is put, one of a byte more is not, nor are longer ones (also such whose length's low bits are few).
func TestPutLarge(t *testing.T) {
	puts(t, nil, []byte(some(MaxFrame)), string(framed(some(MaxFrame))))
	for _, n := range []int{MaxFrame + 1, MaxFrame + 2, 2 * MaxFrame, 1 << 24} {
		for _, out := range [][]byte{nil, {}, []byte("x"), framed("a")} {
			was := string(out)
			if b, e := Put(out, make([]byte, n)); len(b) != 0 || e != api.ErrLarge {
				t.Errorf("a body of %d bytes: %s %v", n, short(b), e)
			}
			if string(out) != was {
				t.Errorf("a body of %d bytes: out is %s", n, short(out))
			}
		}
	}
}

// H1, R1: out may have room behind it, which is its owner's; body may stand anywhere in it.
func TestPutLeavesWhatIsHandedIn(t *testing.T) {
	for _, n := range []int{0, 1, 10, 100, MaxFrame, MaxFrame + 1} {
		for _, have := range []int{0, 1, 9, 50} {
			all := []byte(some(have + 2*MaxFrame))
			was := string(all)
			for name, body := range map[string][]byte{
				"apart":   []byte(some(n)),
				"behind":  all[have : have+n],
				"further": all[have+8 : have+8+n],
				"ahead":   all[:n],
			} {
				text := string(body)
				b, e := Put(all[:have], body)
				if n > MaxFrame {
					if len(b) != 0 || e != api.ErrLarge {
						t.Errorf("%d behind %d, %s: %s %v", n, have, name, short(b), e)
					}
				} else if string(b) != was[:have]+string(framed(text)) || e != api.OK {
					t.Errorf("%d behind %d, %s: %s %v", n, have, name, short(b), e)
				}
				if string(all) != was || string(body) != text {
					t.Errorf("%d behind %d, %s: what was handed in has changed", n, have, name)
				}
			}
		}
	}
}

// H1, R1: what Put tells shares nothing with out or body, with room behind these and without.
func TestPutAnswersNewMemory(t *testing.T) {
	for _, room := range []int{0, 1, 8, 200} {
		for _, text := range []string{"", "b", some(30)} {
			out, body := append(make([]byte, 0, 3+room), "out"...), append(make([]byte, 0, len(text)+room), text...)
			want := "out" + string(framed(text))
			b, _ := Put(out, body)
			again, _ := Put(out, body)
			over(b)
			if string(out) != "out" || string(body) != text || string(again) != want {
				t.Errorf("room %d, %s: written over, it changes %q %q %s", room, short(text), out, body, short(again))
			}
			over(out)
			over(body)
			if string(again) != want {
				t.Errorf("room %d, %s: it changes with what was handed in: %s", room, short(text), short(again))
			}
		}
	}
}

// over writes over all of b, and over the room behind it.
func over(b []byte) {
	b = b[:cap(b)]
	for i := range b {
		b[i] ^= 0xa5
	}
}

// H1 to H3: frames put one behind the other stand so, and are told so.
func TestPutInARow(t *testing.T) {
	var b []byte
	var bodies []string
	for _, body := range append(someBodies(), fewBodies()...) {
		var e api.Errno
		if b, e = Put(b, []byte(body)); e != api.OK {
			t.Fatalf("%s: %v", short(body), e)
		}
		bodies = append(bodies, body)
	}
	if !bytes.Equal(b, row(bodies...)) {
		t.Errorf("%s", short(b))
	}
	alls(t, b, bodies, len(b), api.OK)
	for rest := b; len(bodies) > 0; bodies = bodies[1:] {
		n := 8 + len(bodies[0])
		nexts(t, rest, bodies[0], n, api.OK)
		rest = rest[n:]
	}
}

// H2: what was put is told, whatever stands behind, and how many bytes it has.
func TestNextOfWhatWasPut(t *testing.T) {
	for _, body := range someBodies() {
		b, e := Put(nil, []byte(body))
		if e != api.OK || len(b) != 8+len(body) {
			t.Fatalf("%s: %d bytes, %v", short(body), len(b), e)
		}
		for _, behind := range []string{"", "\x00", "x", "\xff\xff\xff\xff", "\x00\x01\x00\x01", some(100), strings.Repeat("\x00", 100), string(b), string(framed("")), string(turned(b, 5, 1))} {
			nexts(t, append(bytes.Clone(b), behind...), body, len(b), api.OK)
		}
	}
}

// H2: less than four bytes are none, whatever they are.
func TestNextOfLessThanFour(t *testing.T) {
	refused(t, nil, api.ErrNone)
	for n := range 4 {
		for _, c := range []byte{0, 1, 0x7f, 0x80, 0xff} {
			refused(t, bytes.Repeat([]byte{c}, n), api.ErrNone)
		}
		refused(t, []byte("\x00\x01\x00\x01")[:n], api.ErrNone)
	}
}

// H2: four bytes that say more than MaxFrame are no frame, whatever stands behind; such as say MaxFrame or less are the beginning of one.
func TestNextOfALength(t *testing.T) {
	for _, head := range []string{"00 01 00 01", "00 01 00 02", "00 01 01 00", "00 02 00 00", "00 ff ff ff", "01 00 00 00", "01 00 00 01", "7f ff ff ff", "80 00 00 00", "80 00 00 01", "ff ff ff f8", "ff ff ff ff"} {
		for _, n := range []int{0, 1, 3, 4, 5, 100, MaxFrame + 4, 3 * MaxFrame} {
			refused(t, append(bytesOf(t, head), make([]byte, n)...), api.ErrForm)
		}
	}
	for _, head := range []string{"00 00 00 00", "00 00 00 01", "00 00 ff ff", "00 01 00 00"} {
		for n := range 4 {
			refused(t, append(bytesOf(t, head), some(n)...), api.ErrNone)
		}
	}
	for n := MaxFrame + 1; n < MaxFrame+4; n++ {
		// All of it is there, and its CRC is right: its length alone is wrong.
		refused(t, framed(some(n)), api.ErrForm)
		alls(t, framed(some(n)), nil, 0, api.ErrForm)
	}
	refused(t, framed(strings.Repeat("\x00", 1<<24)), api.ErrForm)
}

// cuts are the lengths of a beginning of n bytes: all, if they are not too many, else those around the edges and some.
func cuts(n int) []int {
	var l []int
	for i := range n {
		if n <= 2000 || i < 20 || i > n-20 || i%4099 == 0 {
			l = append(l, i)
		}
	}
	return l
}

// H2: a beginning of a frame is none.
func TestNextOfABeginning(t *testing.T) {
	for _, body := range someBodies() {
		b := framed(body)
		for _, n := range cuts(len(b)) {
			refused(t, b[:n], api.ErrNone)
			refused(t, slices.Clip(bytes.Clone(b[:n])), api.ErrNone)
		}
		nexts(t, b, body, len(b), api.OK)
	}
}

// H2: a frame with one byte turned, its length's too, does not tell that body, alone or with something behind it.
func TestNextOfATurnedByte(t *testing.T) {
	for _, body := range []string{"", "a", "\x00", "ab", some(10), strings.Repeat("\x00", 20), some(300)} {
		b := framed(body)
		for i := range b {
			for mask := 1; mask < 256; mask++ {
				bad := turned(b, i, byte(mask))
				_, _, want := modelNext(string(bad))
				if i >= 4 && want != api.ErrForm || want == api.OK {
					t.Fatalf("%s: %v", short(bad), want)
				}
				refused(t, bad, want)
				alls(t, bad, nil, 0, want)
			}
			refused(t, append(turned(b, i, 0x80), make([]byte, 70000)...), api.ErrForm)
			refused(t, append(turned(b, i, 1), make([]byte, 70000)...), api.ErrForm)
		}
	}
	b := framed(some(MaxFrame))
	for _, i := range cuts(len(b)) {
		bad := turned(b, i, 0x10)
		_, _, want := modelNext(string(bad))
		refused(t, bad, want)
	}
	refused(t, turned(b, 3, 1), api.ErrForm)
	refused(t, turned(b, 2, 1), api.ErrForm)
	refused(t, turned(b, 1, 1), api.ErrForm)
	refused(t, turned(b, len(b)-1, 1), api.ErrForm)
}

// H2: the CRC is that of the length and the body: no other one is taken.
func TestNextOfAnotherCRC(t *testing.T) {
	for _, crc := range []string{
		"e8 b7 be 43", // of the body alone
		"15 77 99 76", // of the body, and the length behind it
		"c1 f7 8f 63", // of a length with the lowest byte first
		"92 97 8c e5", // the right one, the lowest byte first
		"1a 73 68 6d", // all its bits turned
		"00 00 00 00",
		"ff ff ff ff",
	} {
		b := append(append(bytesOf(t, "00 00 00 01"), bytesOf(t, crc)...), 'a')
		refused(t, b, api.ErrForm)
	}
	nexts(t, bytesOf(t, "00 00 00 01 e5 8c 97 92 61"), "a", 9, api.OK)
}

// H2: the errors come in their order: less than four bytes, a length that is too great, less bytes than it says, the CRC.
func TestOrderOfErrors(t *testing.T) {
	// It says too much, but is not four bytes long.
	refused(t, bytesOf(t, "ff ff ff"), api.ErrNone)
	// It says too much, and what it says is not there.
	refused(t, bytesOf(t, "00 01 00 01"), api.ErrForm)
	refused(t, bytesOf(t, "00 01 00 01 00 00 00 00 00"), api.ErrForm)
	// What it says is not there, and the CRC is not that of anything.
	for _, body := range []string{"a", some(10)} {
		b := turned(framed(body), 5, 0xff)
		for n := 4; n < len(b); n++ {
			refused(t, b[:n], api.ErrNone)
		}
		refused(t, b, api.ErrForm)
	}
	refused(t, bytesOf(t, "00 00 00 00 21 44 df"), api.ErrNone)
	refused(t, bytesOf(t, "00 00 00 00 ff ff ff"), api.ErrNone)
	refused(t, bytesOf(t, "00 00 00 01 00 00 00 00"), api.ErrNone)
	refused(t, bytesOf(t, "00 00 00 01 00 00 00 00 61"), api.ErrForm)
}

// H2, H3: all texts of few bytes, out of some that lengths and the CRC of nothing are made of.
func TestAllShortTexts(t *testing.T) {
	letters := []byte{0, 1, 0x21, 0xff}
	for n := range 9 {
		b := make([]byte, n)
		for i := range 1 << (2 * n) {
			for k := range b {
				b[k] = letters[i>>(2*k)&3]
			}
			asModel(t, b)
		}
	}
	for v := range 1 << 16 {
		// The last two bytes of the CRC of nothing, each of them any byte.
		asModel(t, []byte{0, 0, 0, 0, 0x21, 0x44, byte(v >> 8), byte(v)})
	}
}

// H3: of nothing there are no frames, and no rest.
func TestAllOfNothing(t *testing.T) {
	alls(t, nil, nil, 0, api.OK)
	alls(t, []byte{}, nil, 0, api.OK)
	alls(t, make([]byte, 0, 100), nil, 0, api.OK)
}

// H3: one frame, and many of them; how many bytes they have.
func TestAllOfFrames(t *testing.T) {
	for _, body := range someBodies() {
		alls(t, framed(body), []string{body}, 8+len(body), api.OK)
	}
	for n := range 40 {
		var bodies []string
		bytesInAll := 0
		for i := range n {
			bodies = append(bodies, some(i*i%23))
			bytesInAll += 8 + i*i%23
		}
		alls(t, row(bodies...), bodies, bytesInAll, api.OK)
	}
	many := make([]string, 20000)
	alls(t, row(many...), many, 8*len(many), api.OK)
	large := []string{some(MaxFrame), "", some(MaxFrame), "a", strings.Repeat("\x00", MaxFrame)}
	alls(t, row(large...), large, 3*MaxFrame+5*8+1, api.OK)
}

// rows are frames one behind the other, from none on.
func rows() [][]string {
	l := [][]string{nil, {some(300)}, {"a", some(MaxFrame), "b"}}
	for i := range fewBodies() {
		l = append(l, fewBodies()[:i+1])
	}
	return l
}

// H3: frames, and a beginning of one more, cut at each place.
func TestAllOfFramesAndABeginning(t *testing.T) {
	for _, bodies := range rows() {
		ahead := row(bodies...)
		for _, last := range []string{"", "a", some(50), string(row("x", "y")), some(MaxFrame)} {
			b := framed(last)
			for _, n := range cuts(len(b)) {
				want := api.ErrNone
				if n == 0 {
					want = api.OK
				}
				alls(t, slices.Concat(ahead, b[:n]), bodies, len(ahead), want)
			}
			alls(t, slices.Concat(ahead, b), append(slices.Clone(bodies), last), len(ahead)+len(b), api.OK)
		}
	}
}

// H3: a row of frames cut at each place tells those that are whole.
func TestAllOfACutRow(t *testing.T) {
	bodies := fewBodies()
	b := row(bodies...)
	whole, end := 0, 0
	for n := range len(b) + 1 {
		if whole < len(bodies) && n == end+8+len(bodies[whole]) {
			end = n
			whole++
		}
		want := api.ErrNone
		if n == end {
			want = api.OK
		}
		alls(t, b[:n], bodies[:whole], end, want)
	}
	if whole != len(bodies) || end != len(b) {
		t.Errorf("%d frames, %d bytes", whole, end)
	}
}

// H3: frames, and a turned one: those ahead of it are told, those behind it are not.
func TestAllOfFramesAndATurnedOne(t *testing.T) {
	for _, bodies := range rows() {
		ahead := row(bodies...)
		for _, bad := range []string{"", "a", some(30)} {
			for i := range framed(bad) {
				for _, mask := range []byte{1, 0x80, 0xff} {
					b := turned(framed(bad), i, mask)
					_, _, want := modelNext(string(b))
					alls(t, slices.Concat(ahead, b), bodies, len(ahead), want)
					b = append(b, row("behind", "it")...)
					_, _, want = modelNext(string(b))
					alls(t, slices.Concat(ahead, b), bodies, len(ahead), want)
					if i >= 4 && want != api.ErrForm {
						t.Errorf("byte %d turned: %v", i, want)
					}
				}
			}
		}
	}
}

// H3: frames, and what is none: the rest is told as Next tells it.
func TestAllOfFramesAndWhatIsNone(t *testing.T) {
	for _, bodies := range rows() {
		ahead := row(bodies...)
		for rest, want := range map[string]api.Errno{
			"\x00":                             api.ErrNone,
			"\xff\xff\xff":                     api.ErrNone,
			"\xff\xff\xff\xff":                 api.ErrForm,
			"\x00\x01\x00\x00":                 api.ErrNone,
			"\x00\x01\x00\x01":                 api.ErrForm,
			"\x00\x00\x00\x00\x00\x00\x00":     api.ErrNone,
			"\x00\x00\x00\x00\x00\x00\x00\x00": api.ErrForm,
			strings.Repeat("\x00", 100):        api.ErrForm,
			"no frame, but a text":             api.ErrForm,
			string(framed(some(MaxFrame + 1))): api.ErrForm,
			string(framed("a"))[1:]:            api.ErrNone,
			string(framed("a"))[3:]:            api.ErrForm,
		} {
			if _, _, e := Next([]byte(rest)); e != want {
				t.Errorf("Next of %s: %v", short(rest), e)
			}
			alls(t, slices.Concat(ahead, []byte(rest)), bodies, len(ahead), want)
		}
	}
}

// H2, H3, R1: what is handed in stays, with the room behind it, and is not kept.
func TestReadsLeaveAndKeepNothing(t *testing.T) {
	bodies := fewBodies()
	for _, rest := range []string{"", "\x00\x00", "\xff\xff\xff\xff", string(turned(framed("c"), 8, 1))} {
		all := slices.Concat(row(bodies...), []byte(rest), framed("room"))
		was := string(all)
		b := all[:len(all)-12]
		l, n, e := All(b)
		body, k, e2 := Next(b)
		if string(all) != was {
			t.Errorf("%x: what was handed in has changed", rest)
		}
		over(all)
		if !slices.Equal(asTexts(l), bodies) || string(body) != bodies[0] {
			t.Errorf("%x: what was told has changed", rest)
		}
		over(all)
		if _, wantN, want := modelAll(was[:len(b)]); n != wantN || e != want || k != 9 || e2 != api.OK {
			t.Errorf("%x: %d %v %d %v", rest, n, e, k, e2)
		}
	}
}

// H2, H3, R1: what is told is its owner's: written over, with the room behind it, it changes nothing of what is handed in, and no other body.
func TestReadsAnswerNewMemory(t *testing.T) {
	bodies := append(fewBodies(), some(MaxFrame), "z")
	b := row(bodies...)
	was := string(b)
	for i := range bodies {
		l, _, _ := All(b)
		over(l[i])
		want := slices.Clone(bodies)
		want[i] = string(l[i])
		if !slices.Equal(asTexts(l), want) || string(b) != was {
			t.Errorf("the %d-th body, written over, changes something", i)
		}
		_ = append(l[i], "more than there was room for, and some"...)
		if !slices.Equal(asTexts(l), want) || string(b) != was {
			t.Errorf("the %d-th body, gone on with, changes something", i)
		}
	}
	body, _, _ := Next(b)
	again, _, _ := Next(b)
	over(body)
	if string(b) != was || string(again) != bodies[0] {
		t.Error("the body that Next tells, written over, changes something")
	}
	alls(t, b, bodies, len(b), api.OK)
}

// R4: whatever was asked between, the answers are the same.
func TestTheSameAgain(t *testing.T) {
	for range 3 {
		for _, body := range fewBodies() {
			puts(t, []byte("x"), []byte(body), "x"+string(framed(body)))
			asModel(t, framed(body))
			asModel(t, turned(framed(body), 7, 2))
			if _, e := Put(nil, make([]byte, MaxFrame+1)); e != api.ErrLarge {
				t.Errorf("%v", e)
			}
		}
	}
}

// H3: whoever goes through the frames may stop at any of them.
func TestFramesThatAreLeft(t *testing.T) {
	bodies := fewBodies()
	for stop := range len(bodies) {
		var seen []string
		for body, n := range frames(row(bodies...)) {
			if n != 8+len(body) {
				t.Errorf("%d bytes of %s", n, short(body))
			}
			seen = append(seen, string(body))
			if len(seen) == stop+1 {
				break
			}
		}
		if !slices.Equal(seen, bodies[:stop+1]) {
			t.Errorf("stopped at %d: %q", stop, seen)
		}
	}
}

// H1 to H3: any bytes, held against the model; what All tells, put again, is where it came from.
func FuzzReads(f *testing.F) {
	for _, bodies := range rows()[3:] {
		f.Add(row(bodies...), 3, byte(1))
		f.Add(append(row(bodies...), 0, 0, 0), 20, byte(0))
	}
	f.Add(make([]byte, 8), 0, byte(0xff))
	f.Fuzz(func(t *testing.T, b []byte, at int, mask byte) {
		asModel(t, b)
		l, n, _ := All(b)
		var again []byte
		for _, body := range l {
			again, _ = Put(again, body)
		}
		if n > len(b) || !bytes.Equal(again, b[:min(n, len(b))]) {
			t.Errorf("%s: put again: %s", short(b), short(again))
		}
		if len(b) > MaxFrame {
			return
		}
		whole, e := Put(b, b)
		if e != api.OK || string(whole) != string(b)+string(framed(string(b))) {
			t.Errorf("Put of %s and itself: %s %v", short(b), short(whole), e)
		}
		fr := whole[len(b):]
		if i := at; i >= 0 && i < len(fr) && mask != 0 {
			asModel(t, turned(fr, i, mask))
			if body, _, e := Next(turned(fr, i, mask)); e == api.OK && bytes.Equal(body, b) {
				t.Errorf("%s: byte %d turned: it is told all the same", short(fr), i)
			}
		}
		asModel(t, fr[:min(max(at, 0), len(fr))])
	})
}
