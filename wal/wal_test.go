package wal

import (
	"bytes"
	"fmt"
	"math"
	"math/rand/v2"
	"slices"
	"strings"
	"testing"

	"marlstone/api"
	"marlstone/disk"
)

func is(t *testing.T, e, w api.Errno) {
	t.Helper()
	if e != w {
		t.Errorf("%v, not %v", e, w)
	}
}

// asTexts is the records as texts.
func asTexts(records [][]byte) []string {
	var l []string
	for _, r := range records {
		l = append(l, string(r))
	}
	return l
}

// opens is the log that Open answers, with that number and these records.
func opens(t *testing.T, d *disk.Disk, from, number int, want ...string) *Log {
	t.Helper()
	l, records, e := Open(d, from)
	if l == nil || e != api.OK {
		t.Fatalf("Open from %d: %v, %v", from, l, e)
	}
	if l.Number() != number || !slices.Equal(asTexts(records), want) {
		t.Errorf("Open from %d: current %d, not %d; %.300q, not %.300q", from, l.Number(), number, records, want)
	}
	return l
}

// refused holds that Open answers an error and nothing else, and writes nothing, not even in vain.
func refused(t *testing.T, d *disk.Disk, from int, want api.Errno) {
	t.Helper()
	ahead := whole(d)
	l, records, e := Open(d, from)
	if l != nil || len(records) != 0 || e != want {
		t.Errorf("Open from %d: %v, %.300q, %v, not %v", from, l, records, e, want)
	}
	if whole(d) != ahead {
		t.Errorf("Open from %d (%v) changed the disk:\n%s\n%s", from, e, ahead, whole(d))
	}
	c := d.Clone()
	c.Arm(1, 0)
	up := c.Up()
	if _, _, e := Open(c, from); e != want || c.Up() != up {
		t.Errorf("Open from %d of an armed disk: %v, up %v", from, e, c.Up())
	}
}

// with is a disk with these files (a name, its bytes, and so on), none of them synced.
func with(t *testing.T, files ...string) *disk.Disk {
	t.Helper()
	d := disk.New(10_000_000)
	for i := 0; i < len(files); i += 2 {
		is(t, d.Create(files[i]), api.OK)
		is(t, d.Append(files[i], []byte(files[i+1])), api.OK)
	}
	return d
}

// has holds a disk against its files (a name, its bytes, and so on, rising).
func has(t *testing.T, d *disk.Disk, want ...string) {
	t.Helper()
	var got []string
	for _, name := range d.List() {
		b, e := d.Read(name)
		is(t, e, api.OK)
		got = append(got, name, string(b))
	}
	if !slices.Equal(got, want) {
		t.Errorf("%.300q, not %.300q", got, want)
	}
}

// lasting holds what would be there if power failed now, and nothing more were kept.
func lasting(t *testing.T, d *disk.Disk, want ...string) {
	t.Helper()
	c := d.Clone()
	c.Crash(0)
	c.Start()
	has(t, c, want...)
}

// rotates holds what Rotate answers.
func rotates(t *testing.T, l *Log, n int, want api.Errno) {
	t.Helper()
	if got, e := l.Rotate(); got != n || e != want {
		t.Errorf("Rotate: %d %v, not %d %v", got, e, n, want)
	}
}

// some is n bytes that are not all the same.
func some(n int) []byte {
	b := make([]byte, n)
	for i := range b {
		b[i] = byte(i + i>>8)
	}
	return b
}

// noFrames are bytes with which no frame begins, nor may they be a beginning of one.
func noFrames() []string {
	turned := []byte(framed("abc"))
	turned[9] ^= 1
	return []string{"\x00\x00\x00\x00\x00\x00\x00\x00", "\x00\x01\x00\x01", "\xff\xff\xff\xff", string(turned), framed("abc")[2:], "\x00\x00\x00\x01\x00\x00\x00\x00a" + framed("b")}
}

// I1, I2: the chapter's example.
func TestExample(t *testing.T) {
	d := disk.New(1000)
	l := opens(t, d, 1, 1)
	is(t, l.Append([]byte("a")), api.OK)
	is(t, l.Sync(), api.OK)
	is(t, l.Append([]byte("b")), api.OK)
	d.Crash(5)
	d.Start()
	l = opens(t, d, 1, 2, "a")
	has(t, d, "wal-00000001", framed("a")+framed("b")[:5], "wal-00000002", "")
	is(t, l.Append([]byte("c")), api.OK)
	rotates(t, l, 3, api.OK)
	l = opens(t, d, 2, 4, "c")
	is(t, l.Drop(3), api.OK)
	has(t, d, "wal-00000003", "", "wal-00000004", "")
}

// I1: from is from 1 to MaxSegment, on an empty disk the first segment's number, and asked ahead of all else.
func TestFrom(t *testing.T) {
	if MaxSegment != 99999999 {
		t.Errorf("MaxSegment %d", MaxSegment)
	}
	wrong := []int{math.MinInt, -MaxSegment, -1, 0, MaxSegment + 1, MaxSegment + 2, 1 << 32, math.MaxInt}
	for _, from := range wrong {
		refused(t, disk.New(9), from, api.ErrArg)
		refused(t, with(t, "wal-00000001", noFrames()[0]), from, api.ErrArg)
		refused(t, with(t, "wal-99999999", ""), from, api.ErrArg)
		d := disk.New(9)
		d.Crash(0)
		refused(t, d, from, api.ErrArg)
	}
	for _, from := range []int{1, 2, 9, 10, 99, 100, 9999999, 10000000, 12345678, MaxSegment - 1, MaxSegment} {
		d := disk.New(0)
		opens(t, d, from, from)
		has(t, d, fmt.Sprintf("wal-%08d", from), "")
	}
}

// R2: there may be no disk.
func TestNoDisk(t *testing.T) {
	for _, from := range []int{-1, 0, 1, MaxSegment, MaxSegment + 1} {
		if l, records, e := Open(nil, from); l != nil || records != nil || e != api.ErrArg {
			t.Errorf("%d: %v %v %v", from, l, records, e)
		}
	}
}

// I1: a disk that is down is so whatever is on it; started, it is as it was.
func TestOpenDown(t *testing.T) {
	for _, files := range [][]string{{}, {"wal-00000003", row("a", "b")}, {"wal-00000001", noFrames()[0]}, {"wal-99999999", ""}} {
		d := with(t, files...)
		d.Crash(1000)
		for _, from := range []int{1, 2, MaxSegment} {
			refused(t, d, from, api.ErrDown)
		}
		d.Start()
		has(t, d, files...)
	}
	d := with(t, "wal-00000003", row("a", "b"))
	d.Crash(1000)
	d.Start()
	opens(t, d, 2, 4, "a", "b")
}

// I1: what stands below from is not read, be it no frames, and not synced; but the new number is above it.
func TestOpenBelow(t *testing.T) {
	files := []string{"wal-00000001", noFrames()[0], "wal-00000002", row("a"), "wal-00000005", row("b", "c"), "wal-00000009", row("d")}
	for from := 2; from <= 12; from++ {
		d := with(t, files...)
		want := []string{"a", "b", "c", "d"}
		lasts := slices.Clone(files)
		switch lasts[1] = ""; {
		case from > 9:
			want, lasts[3], lasts[5], lasts[7] = nil, "", "", ""
		case from > 5:
			want, lasts[3], lasts[5] = want[3:], "", ""
		case from > 2:
			want, lasts[3] = want[1:], ""
		}
		number := max(from, 10)
		opens(t, d, from, number, want...)
		has(t, d, append(slices.Clone(files), modelName(number), "")...)
		lasting(t, d, append(lasts, modelName(number), "")...)
	}
	refused(t, with(t, files...), 1, api.ErrBroken)
}

// I1: segments are told by their numbers, rising, also where digits come to be more, and with gaps, and in whatever order they were made.
func TestOrder(t *testing.T) {
	numbers := []int{1, 2, 8, 9, 10, 11, 99, 100, 101, 1000, 99999, 1234567, 9999999, 10000000, 50000000, 99999997}
	for seed := range 20 {
		r := rand.New(rand.NewPCG(uint64(seed), 9))
		d := disk.New(10000)
		for _, i := range r.Perm(len(numbers)) {
			is(t, d.Create(modelName(numbers[i])), api.OK)
			is(t, d.Append(modelName(numbers[i]), []byte(row(fmt.Sprint(numbers[i]), fmt.Sprint("and ", numbers[i])))), api.OK)
		}
		for i, n := range numbers {
			var want []string
			for _, n := range numbers[i:] {
				want = append(want, fmt.Sprint(n), fmt.Sprint("and ", n))
			}
			opens(t, d.Clone(), n, 99999998, want...)
			opens(t, d.Clone(), n+1, 99999998, want[2:]...)
		}
	}
}

// nearNames are nearly those of segments.
func nearNames() []string {
	return []string{
		"wal-", "wal-1", "wal-0000001", "wal-9999999", "wal-000000001", "wal-100000000", "wal-999999990", "wal-0000000000000000000000000000001", "wal-18446744073709551617", "wal-9223372036804775808", "wal-99999999999999999999",
		"wal-+0000001", "wal--0000001", "wal- 0000001", "wal-0000001 ", "wal-+00000001", "wal--00000001",
		"wal-00000000", "wal--0000000", "wal-+0000000",
		"wal-0000000a", "wal-a0000001", "wal-0x000001", "wal-0b000001", "wal-0000_001", "wal-1e000001", "wal-1.000000", "wal-1,000000", "wal-000000:1", "wal-000000/1",
		"Wal-00000001", "WAL-00000001", "wal_00000001", "wal00000001", "wal 00000001", "wa-00000001", "00000001", "-00000001", "xwal-00000001", " wal-00000001", "wal-wal-00000001", "log-00000001",
		"wal-00000001 ", "wal-00000001\n", "\nwal-00000001", "wal-00000001\x00", "wal-00000001.new", "wal-0000000\x00", "wal-\x00\x00\x00\x00\x00\x00\x00\x01", "wal-\xff\xff\xff\xff\xff\xff\xff\xff",
		"wal-٠٠٠١", "wal-٠٠٠٠٠٠٠١", "wal-０００００００１", "wal−00000001",
		"CURRENT", "manifest-00000001", "table-00000001",
	}
}

// I1, I2: what has another name is no segment: it is not read, does not count, is not synced and not deleted.
func TestNearNames(t *testing.T) {
	for _, name := range nearNames() {
		d := with(t, name, noFrames()[0])
		l := opens(t, d, 1, 1)
		is(t, l.Append([]byte("a")), api.OK)
		rotates(t, l, 2, api.OK)
		rotates(t, l, 3, api.OK)
		is(t, l.Drop(3), api.OK)
		if b, e := d.Read(name); string(b) != noFrames()[0] || e != api.OK || len(d.List()) != 2 {
			t.Errorf("%q: %q %v %q", name, b, e, d.List())
		}
		d.Crash(0)
		d.Start()
		if b, e := d.Read(name); len(b) != 0 || e != api.OK {
			t.Errorf("%q was synced: %q %v", name, b, e)
		}
		opens(t, d, 1, 4)
	}
	d := disk.New(10000)
	for _, name := range nearNames() {
		is(t, d.Create(name), api.OK)
		is(t, d.Append(name, []byte(row("no"))), api.OK)
	}
	l := opens(t, d, 1, 1)
	is(t, l.Append([]byte("a")), api.OK)
	l = opens(t, d, 1, 2, "a")
	is(t, l.Drop(2), api.OK)
	if len(d.List()) != len(nearNames())+1 {
		t.Errorf("%q", d.List())
	}
}

// I1: no number is above MaxSegment: ErrLarge, and no sync; but segments that are broken are told ahead of it, if they are read.
func TestOpenLarge(t *testing.T) {
	last := []string{"wal-00000007", row("a"), "wal-99999999", row("b")}
	for _, from := range []int{1, 7, 8, MaxSegment - 1, MaxSegment} {
		d := with(t, last...)
		refused(t, d, from, api.ErrLarge)
		lasting(t, d, "wal-00000007", "", "wal-99999999", "")
		refused(t, with(t, "wal-99999999", noFrames()[0]), from, api.ErrBroken)
	}
	d := with(t, "wal-00000007", noFrames()[0], "wal-99999999", row("b"))
	refused(t, d, 1, api.ErrBroken)
	refused(t, d, 7, api.ErrBroken)
	refused(t, d, 8, api.ErrLarge)
	d = with(t, "wal-00000007", row("a"), "wal-99999998", row("b"))
	l := opens(t, d, 7, MaxSegment, "a", "b")
	is(t, l.Append([]byte("c")), api.OK)
	is(t, l.Sync(), api.OK)
	refused(t, d, 7, api.ErrLarge)
}

// I1: a beginning of a frame, wherever it was torn off, is let by, in one segment and in several; and nothing is put behind it.
func TestOpenTorn(t *testing.T) {
	whole := framed("cd")
	for cut := range whole {
		d := with(t, "wal-00000001", row("a", "b")+whole[:cut])
		l := opens(t, d, 1, 2, "a", "b")
		is(t, l.Append([]byte("e")), api.OK)
		has(t, d, "wal-00000001", row("a", "b")+whole[:cut], "wal-00000002", row("e"))
		opens(t, d, 1, 3, "a", "b", "e")
		for other := range whole {
			d := with(t, "wal-00000001", whole[:cut], "wal-00000002", row("a")+whole[:other], "wal-00000004", row("b", "")+whole[:cut], "wal-00000005", whole[:other], "wal-00000006", "", "wal-00000007", row("x"))
			opens(t, d, 1, 8, "a", "b", "", "x")
			opens(t, d, 3, 9, "b", "", "x")
		}
	}
	long := framed(string(some(65536)))
	for _, cut := range []int{4, 7, 8, 9, 65536, len(long) - 1} {
		opens(t, with(t, "wal-00000001", row("a")+long[:cut], "wal-00000002", long), 1, 3, "a", string(some(65536)))
	}
}

// I1: what is no frame, and no beginning of one, is ErrBroken, in whichever segment it is, and behind whatever; nothing is changed.
func TestOpenBroken(t *testing.T) {
	for _, none := range noFrames() {
		for _, ahead := range []string{"", row("a"), row("", "bc")} {
			for at := range 3 {
				files := []string{"wal-00000002", row("a"), "wal-00000003", row("b") + framed("c")[:6], "wal-00000005", ""}
				files[2*at+1] = ahead + none
				d := with(t, files...)
				refused(t, d, 1, api.ErrBroken)
				refused(t, d, 2, api.ErrBroken)
				has(t, d, files...)
				lasting(t, d, files[0], "", files[2], "", files[4], "")
				opens(t, d, 6, 6)
			}
		}
	}
}

// I1: of each byte that is turned, and of each end that is lost, what the model tells.
func TestOpenOfTurnedBytes(t *testing.T) {
	files := []string{"wal-00000001", row("ab", ""), "wal-00000002", row("c"), "wal-00000003", row("", "d")}
	for f := 1; f < len(files); f += 2 {
		for i := range files[f] {
			for mask := 1; mask < 256; mask *= 2 {
				b := []byte(files[f])
				b[i] ^= byte(mask)
				turned := slices.Clone(files)
				turned[f] = string(b)
				sameOpen(t, with(t, turned...), 1)
				turned[f] = string(b[:i+1])
				sameOpen(t, with(t, turned...), 1)
			}
		}
	}
}

// sameOpen holds an Open against the model's.
func sameOpen(t *testing.T, d *disk.Disk, from int) {
	t.Helper()
	other := d.Clone()
	l, records, e := Open(d, from)
	m, want, w := modelOpen(other, from)
	if e != w || !slices.Equal(asTexts(records), want) || (l == nil) != (m == nil) || l != nil && l.Number() != m.Number() {
		t.Errorf("%q %v, not %q %v", records, e, want, w)
	}
	if whole(d) != whole(other) {
		t.Errorf("%s\nnot\n%s", whole(d), whole(other))
	}
}

// I1: the segments from there on are synced, rising, and then the new one is created: where power fails at one of these calls, those ahead of it were done, and no other.
func TestOpenFails(t *testing.T) {
	files := []string{"wal-00000001", row("x"), "wal-00000003", row("a"), "wal-00000009", row("bc") + "\x00", "wal-00000010", row("d"), "wal-00000012", ""}
	for call := 1; call <= 6; call++ {
		for keep := range 4 {
			d := with(t, files...)
			d.Arm(call, keep)
			l, records, e := Open(d, 2)
			if call == 6 {
				if l == nil || len(records) != 3 || e != api.OK || l.Number() != 13 {
					t.Errorf("%v %q %v", l, records, e)
				}
				continue
			}
			if l != nil || records != nil || e != api.ErrDown || d.Up() {
				t.Errorf("call %d: %v %q %v, up %v", call, l, records, e, d.Up())
			}
			d.Start()
			// What is kept beyond the synced ones is of the first file, as that was written first.
			want := slices.Clone(files)
			want[1] = want[1][:keep]
			for i := 1 + 2*call; i < len(want); i += 2 {
				want[i] = ""
			}
			has(t, d, want...)
		}
	}
}

// I2: a record of 0 to MaxFrame bytes is a frame behind the others; a larger one is ErrLarge, whatever the disk, and nothing is written.
func TestAppend(t *testing.T) {
	d := disk.New(1_000_000)
	l := opens(t, d, 1, 1)
	var want []string
	for _, n := range []int{0, 1, 2, 255, 256, 65535, 65536, 0, 1} {
		is(t, l.Append(some(n)), api.OK)
		want = append(want, string(some(n)))
		has(t, d, "wal-00000001", row(want...))
		lasting(t, d, "wal-00000001", "")
	}
	is(t, l.Append(nil), api.OK)
	is(t, l.Append([]byte{}), api.OK)
	want = append(want, "", "")
	d.Arm(1, 0)
	for _, n := range []int{65537, 65538, 100_000} {
		is(t, l.Append(some(n)), api.ErrLarge)
	}
	d.Arm(0, 0)
	has(t, d, "wal-00000001", row(want...))
	opens(t, d, 1, 2, want...)
	full := disk.New(0)
	l = opens(t, full, 1, 1)
	is(t, l.Append(some(65537)), api.ErrLarge)
	full.Crash(0)
	is(t, l.Append(some(65537)), api.ErrLarge)
	is(t, l.Append(some(65536)), api.ErrDown)
}

// I2: where there is no room nothing is changed, and a record that has room goes behind the last one that had.
func TestAppendFull(t *testing.T) {
	for capacity := range 40 {
		d := disk.New(capacity)
		l := opens(t, d, 1, 1)
		var want []string
		for n := range 12 {
			e := api.OK
			if len(row(want...))+8+n > capacity {
				e = api.ErrFull
			} else {
				want = append(want, string(some(n)))
			}
			is(t, l.Append(some(n)), e)
			has(t, d, "wal-00000001", row(want...))
		}
		is(t, l.Sync(), api.OK)
		rotates(t, l, 2, api.OK)
		opens(t, d, 1, 3, want...)
	}
}

// I2: of a disk that is down ErrDown, of each call that asks it; nothing is changed, and started again the log goes on where it was.
func TestDown(t *testing.T) {
	d := disk.New(1000)
	l := opens(t, d, 3, 3)
	is(t, l.Append([]byte("a")), api.OK)
	rotates(t, l, 4, api.OK)
	is(t, l.Append([]byte("b")), api.OK)
	is(t, l.Sync(), api.OK)
	d.Crash(0)
	ahead := whole(d)
	is(t, l.Append(nil), api.ErrDown)
	is(t, l.Append([]byte("c")), api.ErrDown)
	is(t, l.Sync(), api.ErrDown)
	rotates(t, l, 0, api.ErrDown)
	for _, below := range []int{math.MinInt, -1, 0, 1, 3, 4} {
		is(t, l.Drop(below), api.ErrDown)
	}
	is(t, l.Drop(5), api.ErrArg)
	if l.Number() != 4 || whole(d) != ahead {
		t.Errorf("%d\n%s\n%s", l.Number(), ahead, whole(d))
	}
	d.Start()
	has(t, d, "wal-00000003", row("a"), "wal-00000004", row("b"))
	is(t, l.Append([]byte("d")), api.OK)
	rotates(t, l, 5, api.OK)
	is(t, l.Append([]byte("e")), api.OK)
	opens(t, d, 3, 6, "a", "b", "d", "e")
}

// I2: Sync is of the current segment, and of no other; it may be done again, and with nothing new.
func TestSync(t *testing.T) {
	d := with(t, "other", "123", "wal-00000001", row("x"))
	l := opens(t, d, 2, 2)
	is(t, l.Sync(), api.OK)
	lasting(t, d, "other", "", "wal-00000001", "", "wal-00000002", "")
	is(t, l.Append([]byte("a")), api.OK)
	is(t, l.Append([]byte("b")), api.OK)
	lasting(t, d, "other", "", "wal-00000001", "", "wal-00000002", "")
	for range 2 {
		is(t, l.Sync(), api.OK)
		lasting(t, d, "other", "", "wal-00000001", "", "wal-00000002", row("a", "b"))
	}
	is(t, l.Append([]byte("c")), api.OK)
	c := d.Clone()
	lasting(t, d, "other", "", "wal-00000001", "", "wal-00000002", row("a", "b"))
	d.Arm(1, 12)
	is(t, l.Sync(), api.ErrDown)
	d.Start()
	has(t, d, "other", "123", "wal-00000001", row("x"), "wal-00000002", row("a", "b"))
	if l.Number() != 2 {
		t.Errorf("%d", l.Number())
	}
	c.Crash(14)
	c.Start()
	opens(t, c, 1, 3, "x", "a", "b")
	// A segment that is gone: the disk's own error.
	is(t, d.Delete("wal-00000002"), api.OK)
	is(t, l.Sync(), api.ErrNone)
	is(t, l.Append([]byte("d")), api.ErrNone)
	rotates(t, l, 0, api.ErrNone)
}

// I2: Rotate syncs what was current, and goes on with the next number; its errors leave the number, and a sync that was done is done.
func TestRotate(t *testing.T) {
	d := disk.New(1000)
	l := opens(t, d, 8, 8)
	var want []string
	for n := 9; n <= 12; n++ {
		is(t, l.Append([]byte(fmt.Sprint(n))), api.OK)
		want = append(want, modelName(n-1), row(fmt.Sprint(n)))
		rotates(t, l, n, api.OK)
		if l.Number() != n {
			t.Errorf("%d, not %d", l.Number(), n)
		}
		has(t, d, append(want, modelName(n), "")...)
		lasting(t, d, append(want, modelName(n), "")...)
	}
	is(t, l.Append([]byte("z")), api.OK)
	is(t, d.Create("other"), api.OK)
	is(t, d.Append("other", []byte("o")), api.OK)
	// Power fails at the sync: nothing of it was done.
	c := d.Clone()
	failed := &Log{segments{c}, 12}
	c.Arm(1, 3)
	rotates(t, failed, 0, api.ErrDown)
	c.Start()
	has(t, c, append([]string{"other", ""}, append(want, modelName(12), row("z")[:3])...)...)
	// Power fails at the making of the next one: the sync was done.
	d.Arm(2, 0)
	rotates(t, l, 0, api.ErrDown)
	d.Start()
	has(t, d, append([]string{"other", ""}, append(want, modelName(12), row("z"))...)...)
	if l.Number() != 12 || failed.Number() != 12 {
		t.Errorf("%d %d", l.Number(), failed.Number())
	}
	// The next one is there: the disk's own error, behind the sync.
	is(t, l.Append([]byte("y")), api.OK)
	is(t, d.Create(modelName(13)), api.OK)
	rotates(t, l, 0, api.ErrState)
	lasting(t, d, append([]string{"other", ""}, append(want, modelName(12), row("z", "y"), modelName(13), "")...)...)
	is(t, l.Append([]byte("x")), api.OK)
	has(t, d, append([]string{"other", ""}, append(want, modelName(12), row("z", "y", "x"), modelName(13), "")...)...)
}

// I2: behind MaxSegment there is no number: ErrLarge ahead of all else, and no sync; the log goes on.
func TestRotateAtTheLast(t *testing.T) {
	d := disk.New(1000)
	l := opens(t, d, MaxSegment-1, MaxSegment-1)
	is(t, l.Append([]byte("a")), api.OK)
	rotates(t, l, MaxSegment, api.OK)
	is(t, l.Append([]byte("b")), api.OK)
	d.Arm(1, 0)
	rotates(t, l, 0, api.ErrLarge)
	if !d.Up() || l.Number() != MaxSegment {
		t.Errorf("%v %d", d.Up(), l.Number())
	}
	d.Arm(0, 0)
	lasting(t, d, "wal-99999998", row("a"), "wal-99999999", "")
	is(t, l.Append([]byte("c")), api.OK)
	is(t, l.Sync(), api.OK)
	lasting(t, d, "wal-99999998", row("a"), "wal-99999999", row("b", "c"))
	is(t, l.Drop(MaxSegment+1), api.ErrArg)
	is(t, l.Drop(MaxSegment), api.OK)
	has(t, d, "wal-99999999", row("b", "c"))
	d.Crash(0)
	rotates(t, l, 0, api.ErrLarge)
}

// dropDisk has segments, below from and not, and files that are none.
func dropDisk(t *testing.T) (*disk.Disk, *Log) {
	t.Helper()
	d := with(t, "a", "1", "wal-00000000", "2", "wal-00000002", noFrames()[0], "wal-00000003", "", "wal-00000007", row("x"), "wal-1", "3")
	return d, opens(t, d, 5, 8, "x")
}

// I2: all segments below a number are deleted, whatever they hold, and nothing else; of the current number and those below it, also of such as are no numbers.
func TestDrop(t *testing.T) {
	for _, below := range []int{math.MinInt, -1, 0, 1, 2, 3, 4, 5, 6, 7, 8} {
		d, l := dropDisk(t)
		is(t, l.Append([]byte("y")), api.OK)
		want := []string{"a", "1", "wal-00000000", "2"}
		if below <= 2 {
			want = append(want, "wal-00000002", noFrames()[0])
		}
		if below <= 3 {
			want = append(want, "wal-00000003", "")
		}
		if below <= 7 {
			want = append(want, "wal-00000007", row("x"))
		}
		want = append(want, "wal-00000008", row("y"), "wal-1", "3")
		is(t, l.Drop(below), api.OK)
		has(t, d, want...)
		is(t, l.Drop(below), api.OK)
		has(t, d, want...)
		is(t, l.Append([]byte("z")), api.OK)
		if l.Number() != 8 {
			t.Errorf("%d", l.Number())
		}
	}
}

// I2: Drop above the current number is ErrArg, ahead of all else, and writes nothing.
func TestDropArg(t *testing.T) {
	d, l := dropDisk(t)
	ahead := whole(d)
	d.Arm(1, 0)
	for _, below := range []int{9, 10, MaxSegment, MaxSegment + 1, math.MaxInt} {
		is(t, l.Drop(below), api.ErrArg)
	}
	if !d.Up() {
		t.Error("a call that writes")
	}
	d.Arm(0, 0)
	if whole(d) != ahead {
		t.Errorf("%s\n%s", ahead, whole(d))
	}
	d.Crash(0)
	is(t, l.Drop(9), api.ErrArg)
	is(t, l.Drop(8), api.ErrDown)
}

// I2: segments are deleted rising, up to the first error.
func TestDropFails(t *testing.T) {
	for call := 1; call <= 4; call++ {
		d, l := dropDisk(t)
		d.Arm(call, 1000)
		if call == 4 {
			is(t, l.Drop(8), api.OK)
			continue
		}
		is(t, l.Drop(8), api.ErrDown)
		d.Start()
		left := []string{"wal-00000002", noFrames()[0], "wal-00000003", "", "wal-00000007", row("x")}[2*(call-1):]
		has(t, d, append(append([]string{"a", "1", "wal-00000000", "2"}, left...), "wal-00000008", "", "wal-1", "3")...)
		is(t, l.Drop(8), api.OK)
		has(t, d, "a", "1", "wal-00000000", "2", "wal-00000008", "", "wal-1", "3")
	}
}

// R1: a record stays as it was, and may be written over; what Open tells is its owner's, each record by itself.
func TestOwners(t *testing.T) {
	d := disk.New(1000)
	l := opens(t, d, 1, 1)
	b := []byte("abcdef")
	is(t, l.Append(b[1:3]), api.OK)
	if string(b) != "abcdef" {
		t.Errorf("%q", b)
	}
	copy(b, "xxxxxx")
	is(t, l.Append(b[:1]), api.OK)
	b[0] = 'y'
	rotates(t, l, 2, api.OK)
	is(t, l.Append([]byte("z")), api.OK)
	want := []string{"bc", "x", "z"}
	_, records, e := Open(d, 1)
	is(t, e, api.OK)
	for i := range records {
		if string(records[i]) != want[i] {
			t.Errorf("%q, not %q", records[i], want[i])
		}
		_ = append(records[i], "written behind it, over what may stand there"...)
		for k := range records[i] {
			records[i][k] = '#'
		}
	}
	_ = append(records[:1], nil, nil)
	opens(t, d, 1, 4, want...)
	has(t, d, "wal-00000001", row("bc", "x"), "wal-00000002", row("z"), "wal-00000003", "", "wal-00000004", "")
}

// R3: two logs on two disks have nothing to do with each other.
func TestApart(t *testing.T) {
	d, c := disk.New(100), disk.New(100)
	l, k := opens(t, d, 1, 1), opens(t, c, 7, 7)
	is(t, l.Append([]byte("a")), api.OK)
	is(t, k.Append([]byte("b")), api.OK)
	rotates(t, l, 2, api.OK)
	c.Crash(0)
	is(t, l.Append([]byte("c")), api.OK)
	is(t, k.Append([]byte("d")), api.ErrDown)
	opens(t, d, 1, 3, "a", "c")
	c.Start()
	opens(t, c, 1, 8)
	has(t, d, "wal-00000001", row("a"), "wal-00000002", row("c"), "wal-00000003", "")
	has(t, c, "wal-00000007", "", "wal-00000008", "")
}

// I1, I2: a log of many records in many segments.
func TestMany(t *testing.T) {
	d := disk.New(1_000_000)
	l := opens(t, d, 1, 1)
	var want []string
	for n := range 1200 {
		want = append(want, strings.Repeat(fmt.Sprint(n), n%7))
		is(t, l.Append([]byte(want[n])), api.OK)
		if n%2 == 1 {
			rotates(t, l, n/2+2, api.OK)
		}
	}
	l = opens(t, d, 1, 602, want...)
	is(t, l.Drop(101), api.OK)
	opens(t, d, 1, 603, want[200:]...)
	opens(t, d, 600, 604, want[1198:]...)
}

// kept is what was written to a log, by this test's own book: all records that stand behind one another, and how many of them are sure.
type kept struct {
	d    *disk.Disk
	l    *Log
	from int
	all  []string
	sure int
	made int
}

// step does one call, and tells whether power failed at it, which is the one error that it may have.
func (k *kept) step(t *testing.T, call byte) (failed bool) {
	t.Helper()
	e := api.OK
	switch call {
	case 'a':
		k.made++
		b := strings.Repeat(fmt.Sprint(k.made%10), k.made%3)
		if e = k.l.Append([]byte(b)); e == api.OK {
			k.all = append(k.all, b)
		}
	case 's':
		if e = k.l.Sync(); e == api.OK {
			k.sure = len(k.all)
		}
	case 'r':
		if _, e = k.l.Rotate(); e == api.OK {
			k.sure = len(k.all)
		}
	case 'o':
		wrong := k.open()
		if wrong != "" && wrong != api.ErrDown.Error() {
			t.Error(wrong)
		}
		return wrong != ""
	}
	if e != api.OK {
		is(t, e, api.ErrDown)
	}
	return e != api.OK
}

// open tells what is wrong with what Open tells.
func (k *kept) open() string {
	l, records, e := Open(k.d, k.from)
	if e != api.OK {
		return e.Error()
	}
	got := asTexts(records)
	if len(got) < k.sure || len(got) > len(k.all) || !slices.Equal(got, k.all[:len(got)]) {
		return fmt.Sprintf("%q of %q, of which %d are sure", got, k.all, k.sure)
	}
	k.l, k.all, k.sure = l, got, len(got)
	return ""
}

// follows does calls, with power failing at one of those that write (0: none), and then holds what Open tells; it tells whether it failed.
func follows(t *testing.T, calls string, at, keep, again int) bool {
	t.Helper()
	k := &kept{d: disk.New(1000), from: 1}
	if s := k.open(); s != "" {
		t.Fatal(s)
	}
	k.d.Arm(at, keep)
	failed := false
	for i := 0; i < len(calls) && !failed; i++ {
		failed = k.step(t, calls[i])
	}
	if k.d.Up() {
		k.d.Crash(keep)
	}
	// Power fails while the log is opened again, too; then nothing is told, and it is opened once more.
	for n := again; n > 0; n-- {
		k.d.Start()
		k.d.Arm(n, keep)
		if l, _, e := Open(k.d, 1); e == api.OK && l != nil {
			k.d.Crash(keep)
		}
	}
	k.d.Start()
	if s := k.open(); s != "" {
		t.Errorf("%s, failing at %d, %d kept, %d times again: %s", calls, at, keep, again, s)
	}
	// What is told lasts, and what is written then stands behind it.
	is(t, k.l.Append([]byte("behind")), api.OK)
	is(t, k.l.Sync(), api.OK)
	want := append(slices.Clone(k.all), "behind")
	k.d.Crash(0)
	k.d.Start()
	if _, records, e := Open(k.d, 1); e != api.OK || !slices.Equal(asTexts(records), want) {
		t.Errorf("%s, failing at %d, %d kept: %q %v, not %q", calls, at, keep, records, e, want)
	}
	return failed
}

// I1, I2: what follows: in all short rows of calls, wherever power fails, whatever is kept, what Open tells is a beginning of all that was appended, with all that was synced.
func TestWhatFollows(t *testing.T) {
	const calls = "asro"
	for n := range 1 << 10 {
		row := ""
		for i := range 5 {
			row += string(calls[n>>(2*i)&3])
		}
		for at := range 40 {
			failed := false
			for keep := range 10*strings.Count(row, "a") + 2 {
				failed = follows(t, row, at, keep, keep%4)
			}
			if at > 0 && !failed {
				break
			}
		}
	}
}

// I2: what follows, where segments are dropped: those from there on are told, wherever power fails at it.
func TestWhatFollowsDrop(t *testing.T) {
	for below := 1; below <= 6; below++ {
		for at := 1; at <= 7; at++ {
			for keep := range 20 {
				d := disk.New(1000)
				l := opens(t, d, 1, 1)
				var want []string
				for n := 1; n <= 6; n++ {
					is(t, l.Append([]byte{byte('a' + n)}), api.OK)
					if n >= below {
						want = append(want, string(rune('a'+n)))
					}
					if n < 6 {
						rotates(t, l, n+1, api.OK)
					}
				}
				if keep < 9 {
					want = want[:len(want)-1]
				}
				d.Arm(at, keep)
				if e := l.Drop(below); e == api.OK {
					d.Crash(keep)
				} else {
					is(t, e, api.ErrDown)
				}
				d.Start()
				if n := len(d.List()); n != max(7-below, 7-at) {
					t.Errorf("below %d, at %d: %q", below, at, d.List())
				}
				opens(t, d, below, 7, want...)
			}
		}
	}
}

// A step is a call of a log, or one of its disk.
type step struct {
	call string
	n    int
	keep int
	b    string
}

// anyStep is one that is chosen by next, which tells a number below n.
func anyStep(next func(n int) int) step {
	calls := []string{"Append", "Append", "Append", "Sync", "Rotate", "Rotate", "Drop", "Open", "Crash", "Start", "Start", "Arm", "Arm", "raw", "make", "remove"}
	s := step{call: calls[next(len(calls))], n: next(12) - 1, keep: next(24) - 1}
	s.b = string(some(next(5)))
	switch s.call {
	case "raw":
		s.b = []string{"", "\x00", framed("raw"), framed("raw")[:6], "\x00\x00\x00\x00\x00\x00\x00\x00"}[len(s.b)]
	case "Open":
		if s.keep > 18 {
			s.n = MaxSegment - 3 + len(s.b)
		}
	case "Append":
		if s.keep == 20 {
			s.b = string(some(65534 + len(s.b)))
		}
	}
	return s
}

// done does a step, and tells what was answered.
func done(d *disk.Disk, l logs, s step) string {
	names := []string{"wal-00000001", "wal-00000002", "wal-00000003", "wal-00000005", "wal-0000001", "wal-00000000", "wal-99999997", "wal-99999999", "other", "", "wal-00000009"}
	switch s.call {
	case "Append":
		return l.Append([]byte(s.b)).Error()
	case "Sync":
		return l.Sync().Error()
	case "Rotate":
		n, e := l.Rotate()
		return fmt.Sprint(n, e)
	case "Drop":
		return l.Drop(s.n).Error()
	case "Crash":
		d.Crash(s.keep)
	case "Start":
		d.Start()
	case "Arm":
		d.Arm(s.n, s.keep)
	case "raw":
		return d.Append(names[max(s.n, 0)], []byte(s.b)).Error()
	case "make":
		return d.Create(names[max(s.n, 0)]).Error()
	case "remove":
		return d.Delete(names[max(s.n, 0)]).Error()
	}
	return ""
}

// pair is a log and a model, each on its disk.
type pair struct {
	d, c *disk.Disk
	l    *Log
	m    *model
}

// reopen opens both; where that is refused, those from ahead go on.
func (p *pair) reopen(t *testing.T, from int) {
	t.Helper()
	l, records, e := Open(p.d, from)
	m, want, w := modelOpen(p.c, from)
	if e != w || !slices.Equal(asTexts(records), want) || (l == nil) != (e != api.OK) {
		t.Fatalf("Open from %d: %v %q %v, not %q %v", from, l, records, e, want, w)
	}
	if l != nil {
		p.l, p.m = l, m
	}
}

// along does as many steps with both, and holds all that is to be seen of one against the other's.
func along(t *testing.T, capacity, from, count int, next func(n int) int) {
	t.Helper()
	p := &pair{d: disk.New(capacity), c: disk.New(capacity)}
	p.reopen(t, from)
	for range count {
		s := anyStep(next)
		if s.call == "Open" {
			p.reopen(t, s.n)
		} else if got, want := done(p.d, p.l, s), done(p.c, p.m, s); got != want {
			t.Fatalf("%v: %s, not %s", s, got, want)
		}
		if p.l.Number() != p.m.Number() || shown(p.d) != shown(p.c) {
			t.Fatalf("%v: %d, not %d; %.500s\nnot\n%.500s", s, p.l.Number(), p.m.Number(), shown(p.d), shown(p.c))
		}
	}
	if whole(p.d) != whole(p.c) {
		t.Fatalf("%.900s\nnot\n%.900s", whole(p.d), whole(p.c))
	}
}

// I1, I2: long rows of calls, with crashes, files of others, and bytes that are no frames, are answered as the model answers them, and leave the disk as it does.
func TestLongRows(t *testing.T) {
	for seed := range 1500 {
		r := rand.New(rand.NewPCG(uint64(seed), 1))
		capacity := []int{0, 20, 60, 200, 100_000, 1_000_000}[seed%6]
		from := []int{1, 1, 1, 2, 5, MaxSegment - 2, MaxSegment}[seed%7]
		along(t, capacity, from, 40, r.IntN)
	}
}

// R4: the same calls have the same answers.
func TestAgain(t *testing.T) {
	var first string
	for range 5 {
		r := rand.New(rand.NewPCG(4, 4))
		d := disk.New(200)
		l := opens(t, d, 1, 1)
		var all bytes.Buffer
		for range 300 {
			s := anyStep(r.IntN)
			if s.call == "Open" {
				k, records, e := Open(d, s.n)
				fmt.Fprintf(&all, "%q %v\n", records, e)
				if k != nil {
					l = k
				}
				continue
			}
			all.WriteString(done(d, l, s) + "\n")
		}
		if first == "" {
			first = all.String()
		}
		if all.String() != first {
			t.Error("other answers")
		}
	}
}

// I1, I2: any row of calls against the model.
func FuzzLog(f *testing.F) {
	f.Add(100, 1, []byte("calls"))
	f.Add(0, MaxSegment, []byte{4, 0, 0, 0, 1, 0, 0, 0, 7, 2, 0, 0})
	f.Add(500, 2, make([]byte, 99))
	f.Fuzz(func(t *testing.T, capacity, from int, b []byte) {
		next := func(n int) int {
			if len(b) == 0 {
				return 0
			}
			x := int(b[0]) % n
			b = b[1:]
			return x
		}
		if from < 1 || from > MaxSegment {
			refused(t, disk.New(capacity%1000), from, api.ErrArg)
			return
		}
		along(t, capacity%1000, from, min(len(b)/4, 200), next)
	})
}
