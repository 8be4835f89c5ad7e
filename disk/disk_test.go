package disk

import (
	"fmt"
	"math"
	"math/rand/v2"
	"slices"
	"strings"
	"testing"

	"marlstone/api"
)

// with is a disk on which the steps were done, all of which must answer OK.
func with(t *testing.T, capacity int, steps ...step) *Disk {
	t.Helper()
	d := New(capacity)
	for _, s := range steps {
		if got := done(d, s); got != api.OK.Error() {
			t.Fatalf("%v: %s", s, got)
		}
	}
	return d
}

func create(name string) step     { return step{call: "Create", name: name} }
func write(name, b string) step   { return step{call: "Append", name: name, b: b} }
func syncs(name string) step      { return step{call: "Sync", name: name} }
func rename(from, to string) step { return step{call: "Rename", name: from, to: to} }
func remove(name string) step     { return step{call: "Delete", name: name} }
func crash(keep int) step         { return step{call: "Crash", keep: keep} }
func start() step                 { return step{call: "Start"} }
func arm(n, keep int) step        { return step{call: "Arm", n: n, keep: keep} }
func (s step) String() string {
	return fmt.Sprintf("%s %q %q %q %d %d", s.call, s.name, s.to, s.b, s.n, s.keep)
}
func long(n int) string { return strings.Repeat("n", n) }
func is(t *testing.T, e, w api.Errno) {
	t.Helper()
	if e != w {
		t.Errorf("%v, not %v", e, w)
	}
}

// has holds a disk that is up against its files (a name, its bytes, and so on, rising) and against how many bytes these have.
func has(t *testing.T, d *Disk, want ...string) {
	t.Helper()
	var got []string
	for _, name := range d.List() {
		b, e := d.Read(name)
		is(t, e, api.OK)
		got = append(got, name, string(b))
	}
	if !d.Up() || !slices.Equal(got, want) {
		t.Errorf("up %v, %q, not %q", d.Up(), got, want)
	}
	used := 0
	for i := 1; i < len(want); i += 2 {
		used += len(want[i])
	}
	if d.Used() != used {
		t.Errorf("%d bytes, not %d", d.Used(), used)
	}
}

// behind holds what has holds against a clone, behind a crash.
func behind(t *testing.T, d *Disk, keep int, want ...string) {
	t.Helper()
	c := d.Clone()
	c.Crash(keep)
	if c.Up() {
		t.Error("up behind a crash")
	}
	c.Start()
	has(t, c, want...)
}

// writers are calls that write, one of each kind.
func writers(name string) []step {
	return []step{create(name), write(name, "x"), syncs(name), rename(name, "to"), rename("a", name), remove(name)}
}

// G1 to G3: the chapter's example.
func TestExample(t *testing.T) {
	d := with(t, 10, create("a"), write("a", "12345"), create("b"), write("b", "67"), write("a", "8"))
	has(t, d, "a", "123458", "b", "67")
	is(t, d.Sync("b"), api.OK)
	d.Crash(5)
	d.Start()
	has(t, d, "a", "12345", "b", "67")
	is(t, d.Append("a", []byte("1234")), api.ErrFull)
	has(t, d, "a", "12345", "b", "67")
	is(t, d.Append("a", []byte("123")), api.OK)
	has(t, d, "a", "12345123", "b", "67")
}

// G1, G2: a new disk is up, and has nothing.
func TestNew(t *testing.T) {
	for _, capacity := range []int{math.MinInt, -1, 0, 1, 10, math.MaxInt} {
		d := New(capacity)
		has(t, d)
		if len(d.List()) != 0 || !d.Up() {
			t.Errorf("%d: %v %v", capacity, d.List(), d.Up())
		}
		d.Crash(0)
		d.Start()
		has(t, d)
	}
}

// G1: a capacity below 0 counts as 0; there are files all the same, and what has no bytes has room.
func TestNoCapacity(t *testing.T) {
	for _, capacity := range []int{math.MinInt, -10, -1, 0} {
		d := with(t, capacity, create("a"), create("b"), write("a", ""), syncs("a"), rename("b", "c"))
		is(t, d.Append("a", nil), api.OK)
		is(t, d.Append("a", []byte("1")), api.ErrFull)
		has(t, d, "a", "", "c", "")
	}
}

// G1: the capacity is met to the byte, by one file and by several, and not passed by one.
func TestCapacity(t *testing.T) {
	for capacity := range 12 {
		for first := range capacity + 1 {
			d := with(t, capacity, create("a"), create("b"), write("a", long(first)))
			is(t, d.Append("b", []byte(long(capacity-first+1))), api.ErrFull)
			is(t, d.Append("a", []byte(long(capacity-first+1))), api.ErrFull)
			has(t, d, "a", long(first), "b", "")
			is(t, d.Append("b", []byte(long(capacity-first))), api.OK)
			has(t, d, "a", long(first), "b", long(capacity-first))
			is(t, d.Append("a", []byte("1")), api.ErrFull)
			is(t, d.Append("b", []byte("1")), api.ErrFull)
			is(t, d.Append("b", nil), api.OK)
			is(t, d.Append("a", []byte{}), api.OK)
			// Synced or not, they count.
			is(t, d.Sync("b"), api.OK)
			is(t, d.Append("a", []byte("1")), api.ErrFull)
			has(t, d, "a", long(first), "b", long(capacity-first))
		}
	}
	d := with(t, math.MaxInt, create("a"), write("a", "1"), write("a", long(1000)))
	has(t, d, "a", "1"+long(1000))
}

// G1: a name has 1 to 64 bytes, whatever these are.
func TestNames(t *testing.T) {
	fit := []string{"a", long(1), long(2), long(63), long(64), "\x00", "\xff\xfe", " ", "/", "..", "ä", strings.Repeat("ä", 32), strings.Repeat("\x00", 64), "CURRENT.new"}
	for _, name := range fit {
		d := with(t, 9, create(name), write(name, "123"), syncs(name), write(name, "4"), rename(name, name), rename(name, "to"), rename("to", name))
		has(t, d, name, "1234")
		is(t, d.Create(name), api.ErrState)
		is(t, d.Delete(name), api.OK)
		has(t, d)
	}
	for _, name := range []string{"", long(65), long(66), long(1000), strings.Repeat("ä", 33), strings.Repeat("\x00", 65)} {
		d := with(t, 9, create("a"), write("a", "1"))
		was := whole(d)
		for _, s := range append(writers(name), rename(name, name), rename("none", name), rename(name, "a")) {
			if got := done(d, s); got != api.ErrArg.Error() {
				t.Errorf("%v: %s", s, got)
			}
		}
		if b, e := d.Read(name); b != nil || e != api.ErrArg {
			t.Errorf("%q: %q %v", name, b, e)
		}
		if now := whole(d); now != was {
			t.Errorf("was %s, is %s", was, now)
		}
	}
}

// G1: names are unlike by any byte, and one may be another one's beginning.
func TestNamesAreUnlike(t *testing.T) {
	d := New(99)
	names := []string{"\x00", "\x00\x00", "A", "a", "a\x00", "aa", "ab", "b", long(63), long(64), "\xc3\xa4", "\xff"}
	for i, name := range names {
		is(t, d.Create(name), api.OK)
		is(t, d.Append(name, []byte{byte('a' + i)}), api.OK)
	}
	for i, name := range names {
		if b, e := d.Read(name); string(b) != string(rune('a'+i)) || e != api.OK {
			t.Errorf("%q: %q %v", name, b, e)
		}
		if _, e := d.Read(name + "-"); e != api.ErrNone && len(name) < 64 {
			t.Errorf("%q-: %v", name, e)
		}
	}
}

// G1, G2: each call's own errors; behind each of them all is as it was.
func TestErrorsChangeNothing(t *testing.T) {
	d := with(t, 5, create("a"), write("a", "12"), syncs("a"), write("a", "3"), create("b"), write("b", "4"), arm(1000, 2))
	tries := []struct {
		s    step
		want api.Errno
	}{
		{create("a"), api.ErrState},
		{create("b"), api.ErrState},
		{create(""), api.ErrArg},
		{write("none", ""), api.ErrNone},
		{write("none", "1"), api.ErrNone},
		{write("none", long(6)), api.ErrNone}, // and it is too much
		{write("", long(6)), api.ErrArg},
		{write("a", "12"), api.ErrFull},
		{write("b", long(1000)), api.ErrFull},
		{syncs("none"), api.ErrNone},
		{syncs(long(65)), api.ErrArg},
		{rename("none", "a"), api.ErrNone},
		{rename("none", "none"), api.ErrNone},
		{rename("none", "no"), api.ErrNone},
		{rename("none", ""), api.ErrArg},
		{rename("", "none"), api.ErrArg},
		{rename("a", ""), api.ErrArg},
		{rename("", "a"), api.ErrArg},
		{rename("a", long(65)), api.ErrArg},
		{rename(long(65), "a"), api.ErrArg},
		{remove("none"), api.ErrNone},
		{remove(""), api.ErrArg},
	}
	was := whole(d)
	for _, x := range tries {
		if got := done(d, x.s); got != x.want.Error() {
			t.Errorf("%v: %s, not %v", x.s, got, x.want)
		}
		if now := whole(d); now != was {
			t.Fatalf("%v: was\n%s\nis\n%s", x.s, was, now)
		}
	}
	for name, want := range map[string]api.Errno{"": api.ErrArg, long(65): api.ErrArg, "none": api.ErrNone, "A": api.ErrNone} {
		if b, e := d.Read(name); b != nil || e != want {
			t.Errorf("Read of %q: %q %v, not %v", name, b, e, want)
		}
	}
}

// G1: what is not there is ErrNone behind a Delete and a Rename, too, and may be created anew, without its old bytes.
func TestGoneFiles(t *testing.T) {
	d := with(t, 9, create("a"), write("a", "12"), syncs("a"), write("a", "3"), remove("a"))
	for _, s := range []step{write("a", "1"), syncs("a"), rename("a", "b"), rename("a", "a"), remove("a")} {
		if got := done(d, s); got != api.ErrNone.Error() {
			t.Errorf("%v: %s", s, got)
		}
	}
	has(t, d)
	is(t, d.Create("a"), api.OK)
	has(t, d, "a", "")
	behind(t, d, 9, "a", "")
	is(t, d.Append("a", []byte("45")), api.OK)
	is(t, d.Rename("a", "b"), api.OK)
	is(t, d.Append("a", []byte("6")), api.ErrNone)
	is(t, d.Create("a"), api.OK)
	is(t, d.Append("a", []byte("78")), api.OK)
	has(t, d, "a", "78", "b", "45")
	behind(t, d, 3, "a", "7", "b", "45")
}

// G1: Rename takes the bytes along, synced or not as they are; onto itself it changes nothing.
func TestRename(t *testing.T) {
	d := with(t, 9, create("a"), write("a", "12"), syncs("a"), write("a", "3"), create("b"), write("b", "45"), write("a", "6"))
	was := whole(d)
	for _, name := range []string{"a", "b"} {
		is(t, d.Rename(name, name), api.OK)
	}
	if now := whole(d); now != was {
		t.Errorf("was\n%s\nis\n%s", was, now)
	}
	is(t, d.Rename("a", "c"), api.OK)
	has(t, d, "b", "45", "c", "1236")
	behind(t, d, 0, "b", "", "c", "12")
	behind(t, d, 1, "b", "", "c", "123")
	behind(t, d, 3, "b", "45", "c", "123")
	behind(t, d, 4, "b", "45", "c", "1236")
	is(t, d.Rename("b", "a"), api.OK)
	behind(t, d, 2, "a", "4", "c", "123")
	// It goes on under its new name, in the order of the calls.
	is(t, d.Append("c", []byte("7")), api.OK)
	behind(t, d, 4, "a", "45", "c", "1236")
	behind(t, d, 5, "a", "45", "c", "12367")
	is(t, d.Sync("c"), api.OK)
	behind(t, d, 1, "a", "4", "c", "12367")
}

// G1: Rename onto another file: that one is gone, with what was not synced, and its room comes back.
func TestRenameOnto(t *testing.T) {
	d := with(t, 8, create("a"), write("a", "1"), create("b"), write("b", "234"), syncs("b"), write("b", "56"), write("a", "78"))
	is(t, d.Append("a", []byte("9")), api.ErrFull)
	is(t, d.Rename("a", "b"), api.OK)
	has(t, d, "b", "178")
	behind(t, d, 0, "b", "")
	behind(t, d, 1, "b", "1")
	behind(t, d, 2, "b", "17")
	behind(t, d, 3, "b", "178")
	is(t, d.Rename("a", "b"), api.ErrNone)
	is(t, d.Append("b", []byte(long(6))), api.ErrFull)
	is(t, d.Append("b", []byte(long(5))), api.OK)
	has(t, d, "b", "178"+long(5))
	is(t, d.Create("a"), api.OK)
	is(t, d.Rename("a", "b"), api.OK)
	has(t, d, "b", "")
	is(t, d.Append("b", []byte(long(9))), api.ErrFull)
	is(t, d.Append("b", []byte(long(8))), api.OK)
}

// G1: behind a Delete there is room again, and nothing of the file in a crash.
func TestDelete(t *testing.T) {
	d := with(t, 6, create("a"), write("a", "12"), create("b"), write("b", "3"), syncs("b"), write("b", "4"), write("a", "56"))
	is(t, d.Append("b", []byte("7")), api.ErrFull)
	is(t, d.Delete("b"), api.OK)
	has(t, d, "a", "1256")
	behind(t, d, 3, "a", "125")
	is(t, d.Append("a", []byte("789")), api.ErrFull)
	is(t, d.Append("a", []byte("78")), api.OK)
	has(t, d, "a", "125678")
	is(t, d.Delete("a"), api.OK)
	has(t, d)
	behind(t, d, 9)
	d = with(t, 6, create("a"), write("a", "12"), create("b"), write("b", "34"), remove("a"), create("a"), write("a", "56"))
	behind(t, d, 3, "a", "5", "b", "34")
}

// G3: of what is not synced the first bytes stay, in the order of the calls, over all files.
func TestCrash(t *testing.T) {
	d := with(t, 99, create("b"), write("b", "12"), create("a"), write("a", "345"), write("b", "6"), create("c"), write("c", "78"), write("a", "9"))
	for _, keep := range []int{math.MinInt, -9, -1, 0} {
		behind(t, d, keep, "a", "", "b", "", "c", "")
	}
	behind(t, d, 1, "a", "", "b", "1", "c", "")
	behind(t, d, 2, "a", "", "b", "12", "c", "")
	behind(t, d, 3, "a", "3", "b", "12", "c", "")
	behind(t, d, 4, "a", "34", "b", "12", "c", "")
	behind(t, d, 5, "a", "345", "b", "12", "c", "")
	behind(t, d, 6, "a", "345", "b", "126", "c", "")
	behind(t, d, 7, "a", "345", "b", "126", "c", "7")
	behind(t, d, 8, "a", "345", "b", "126", "c", "78")
	for _, keep := range []int{9, 10, 99, math.MaxInt} {
		behind(t, d, keep, "a", "3459", "b", "126", "c", "78")
	}
}

// G3: what is synced is there behind any crash, and does not count among the bytes that are kept.
func TestCrashBehindSync(t *testing.T) {
	d := with(t, 99, create("a"), write("a", "12"), create("b"), write("b", "34"), syncs("a"), write("a", "56"), write("b", "7"))
	for _, keep := range []int{math.MinInt, -1, 0} {
		behind(t, d, keep, "a", "12", "b", "")
	}
	behind(t, d, 2, "a", "12", "b", "34")
	behind(t, d, 3, "a", "125", "b", "34")
	behind(t, d, 5, "a", "1256", "b", "347")
	is(t, d.Sync("b"), api.OK)
	behind(t, d, 0, "a", "12", "b", "347")
	behind(t, d, 1, "a", "125", "b", "347")
	is(t, d.Sync("a"), api.OK)
	is(t, d.Sync("a"), api.OK)
	behind(t, d, 0, "a", "1256", "b", "347")
	behind(t, d, math.MaxInt, "a", "1256", "b", "347")
}

// G3: what a crash kept is synced from then on, what it lost has left its room, and what is appended then stands behind what stayed.
func TestCrashAndOn(t *testing.T) {
	d := with(t, 6, create("a"), write("a", "123"), create("b"), write("b", "456"), crash(4), start())
	has(t, d, "a", "123", "b", "4")
	behind(t, d, 0, "a", "123", "b", "4")
	is(t, d.Append("a", []byte("xyz")), api.ErrFull)
	is(t, d.Append("b", []byte("x")), api.OK)
	is(t, d.Append("a", []byte("y")), api.OK)
	has(t, d, "a", "123y", "b", "4x")
	behind(t, d, 0, "a", "123", "b", "4")
	behind(t, d, 1, "a", "123", "b", "4x")
	d.Crash(1)
	d.Start()
	has(t, d, "a", "123", "b", "4x")
}

// G1, G3: that a file is there, or gone, or how it is called, is not lost, though nothing was synced.
func TestNamesLast(t *testing.T) {
	d := with(t, 9, create("a"), create("b"), write("b", "1"), create("c"), rename("b", "d"), remove("c"), create("e"), rename("e", "a"))
	behind(t, d, 0, "a", "", "d", "")
	behind(t, d, 1, "a", "", "d", "1")
}

// G3: calls with nothing in them, between others, are no bytes.
func TestCrashOfEmptyPieces(t *testing.T) {
	d := with(t, 9, create("a"), write("a", ""), write("a", "1"), create("b"), write("b", ""), write("a", ""), write("b", "2"))
	behind(t, d, 1, "a", "1", "b", "")
	behind(t, d, 2, "a", "1", "b", "2")
}

// G1 to G3: a disk that is down answers ErrDown, whatever else is wrong; it tells no names, but how many bytes it has; nothing on it changes, also by Crash.
func TestDown(t *testing.T) {
	d := with(t, 9, create("a"), write("a", "12"), syncs("a"), write("a", "34"), create("b"), write("b", "5"), crash(1))
	was := whole(d)
	for _, name := range []string{"a", "b", "none", "", long(64), long(65)} {
		for _, s := range append(writers(name), write(name, long(99)), rename(name, name), rename(name, "")) {
			if got := done(d, s); got != api.ErrDown.Error() {
				t.Errorf("%v: %s", s, got)
			}
		}
		if b, e := d.Read(name); b != nil || e != api.ErrDown {
			t.Errorf("Read of %q: %q %v", name, b, e)
		}
	}
	for _, keep := range []int{-1, 0, 1, 99} {
		d.Crash(keep)
	}
	if len(d.List()) != 0 || d.Up() || d.Used() != 3 {
		t.Errorf("%v %v %d", d.List(), d.Up(), d.Used())
	}
	if now := whole(d); now != was {
		t.Errorf("was\n%s\nis\n%s", was, now)
	}
	d.Start()
	has(t, d, "a", "123", "b", "")
}

// G3: Start of a disk that is up changes nothing: what is not synced is not, and it is armed as it was.
func TestStart(t *testing.T) {
	d := with(t, 9, create("a"), write("a", "12"), arm(2, 1))
	was := whole(d)
	d.Start()
	d.Start()
	if now := whole(d); now != was {
		t.Errorf("was\n%s\nis\n%s", was, now)
	}
	d.Crash(0)
	d.Start()
	d.Start()
	has(t, d, "a", "")
}

// G3: the n-th call that writes crashes and does nothing else, of whatever kind it is, and whatever it would answer.
func TestArm(t *testing.T) {
	for _, name := range []string{"a", "b", "none", "", long(65)} {
		for _, s := range append(writers(name), write(name, long(99))) {
			for n := 1; n < 5; n++ {
				d := with(t, 9, create("a"), write("a", "12"), create("b"), write("b", "34"), arm(n, 3))
				for range n - 1 {
					is(t, d.Append("b", nil), api.OK)
				}
				has(t, d, "a", "12", "b", "34")
				if got := done(d, s); got != api.ErrDown.Error() || d.Up() {
					t.Errorf("%d, %v: %s, up %v", n, s, got, d.Up())
				}
				is(t, d.Sync("b"), api.ErrDown)
				d.Start()
				has(t, d, "a", "12", "b", "3")
				// Just one call crashes.
				for range 9 {
					is(t, d.Sync("b"), api.OK)
				}
			}
		}
	}
}

// G3: what the crash of an armed call keeps.
func TestArmKeeps(t *testing.T) {
	for keep, want := range map[int][2]string{math.MinInt: {"", ""}, -1: {"", ""}, 0: {"", ""}, 1: {"1", ""}, 2: {"12", ""}, 3: {"12", "3"}, 4: {"12", "34"}, 5: {"12", "34"}, math.MaxInt: {"12", "34"}} {
		d := with(t, 9, create("a"), arm(4, keep), write("a", "12"), create("b"), write("b", "34"))
		is(t, d.Append("b", []byte("5")), api.ErrDown)
		d.Start()
		has(t, d, "a", want[0], "b", want[1])
	}
}

// G3: n of 0 or less: none crashes, and one that was armed ahead of it does not.
func TestArmOfNone(t *testing.T) {
	for _, n := range []int{0, -1, -2, math.MinInt} {
		d := with(t, 99, create("a"), arm(2, 0), arm(n, 0))
		for range 9 {
			is(t, d.Append("a", []byte("1")), api.OK)
		}
		has(t, d, "a", "111111111")
	}
}

// G3: the last Arm counts, with its n and its keep, and is counted from then on.
func TestArmTwice(t *testing.T) {
	d := with(t, 9, create("a"), write("a", "123"), arm(2, 0), write("a", "4"), arm(2, 2), write("a", "5"))
	is(t, d.Append("a", []byte("6")), api.ErrDown)
	d.Start()
	has(t, d, "a", "12")
	d = with(t, 9, create("a"), arm(1, 9), arm(3, 1), write("a", "12"), write("a", "3"))
	is(t, d.Sync("a"), api.ErrDown)
	d.Start()
	has(t, d, "a", "1")
	d = with(t, 9, create("a"), arm(math.MaxInt, 0), arm(1, 0))
	is(t, d.Sync("a"), api.ErrDown)
}

// G3: a crash that comes ahead of the n-th call leaves the disk no longer armed.
func TestCrashDisarms(t *testing.T) {
	d := with(t, 9, create("a"), arm(2, 0), write("a", "1"), crash(1), start())
	for range 9 {
		is(t, d.Sync("a"), api.OK)
	}
	has(t, d, "a", "1")
}

// G3: calls that answer an error count.
func TestArmCountsErrors(t *testing.T) {
	d := with(t, 9, create("a"), write("a", "12"), arm(8, 1))
	is(t, d.Create("a"), api.ErrState)
	is(t, d.Create(""), api.ErrArg)
	is(t, d.Append("none", nil), api.ErrNone)
	is(t, d.Append("a", []byte(long(8))), api.ErrFull)
	is(t, d.Sync("none"), api.ErrNone)
	is(t, d.Rename("none", "a"), api.ErrNone)
	is(t, d.Delete("none"), api.ErrNone)
	has(t, d, "a", "12")
	is(t, d.Delete(""), api.ErrDown)
	d.Start()
	has(t, d, "a", "1")
}

// G3: calls that do not write do not count.
func TestArmCountsNoReads(t *testing.T) {
	d := with(t, 9, create("a"), write("a", "12"), arm(1, 1))
	for range 9 {
		d.List()
		d.Read("a")
		d.Read("none")
		d.Read("")
		d.Used()
		d.Up()
		d.Clone()
		d.Start()
	}
	has(t, d, "a", "12")
	is(t, d.Sync("a"), api.ErrDown)
	d.Start()
	has(t, d, "a", "1")
}

// G3: a disk that is down may be armed; calls on it do not count, and a Crash of it changes nothing.
func TestArmWhileDown(t *testing.T) {
	d := with(t, 9, create("a"), write("a", "12"), syncs("a"), crash(0), arm(2, 1))
	for _, s := range append(writers("a"), writers("none")...) {
		if got := done(d, s); got != api.ErrDown.Error() {
			t.Errorf("%v: %s", s, got)
		}
	}
	d.Crash(9)
	d.Start()
	is(t, d.Append("a", []byte("34")), api.OK)
	is(t, d.Append("a", []byte("5")), api.ErrDown)
	d.Start()
	has(t, d, "a", "123")
	is(t, d.Append("a", []byte("5")), api.OK)
}

// G2: names are told rising, whatever order they came in.
func TestList(t *testing.T) {
	want := []string{"\x00", "A", "a", "a\x00", "a\x01", "aa", "ab", "b", long(63), long(64), "\xc3\xa4", "\xff"}
	for seed := range uint64(20) {
		d := New(0)
		for _, i := range rand.New(rand.NewPCG(seed, 7)).Perm(len(want)) {
			is(t, d.Create(want[i]), api.OK)
		}
		if l := d.List(); !slices.Equal(l, want) {
			t.Errorf("%q, not %q", l, want)
		}
	}
}

// G2: Read tells all bytes, synced or not, of all values and in any pieces.
func TestRead(t *testing.T) {
	d := New(1000)
	is(t, d.Create("a"), api.OK)
	if b, e := d.Read("a"); len(b) != 0 || e != api.OK {
		t.Errorf("%q %v", b, e)
	}
	var want []byte
	for i := range 256 {
		piece := []byte{byte(i), byte(i + 1), byte(i * 7)}[:i%4]
		want = append(want, piece...)
		is(t, d.Append("a", piece), api.OK)
		if i%10 == 0 {
			is(t, d.Sync("a"), api.OK)
		}
		if b, e := d.Read("a"); string(b) != string(want) || e != api.OK || d.Used() != len(want) {
			t.Fatalf("%d: %x %v, not %x", i, b, e, want)
		}
	}
}

// G2: a clone is as the disk is in all: armed, down, with bytes that are not synced.
func TestClone(t *testing.T) {
	files := []step{create("a"), write("a", "12"), create("b"), write("b", "34"), syncs("a"), write("a", "56"), rename("b", "c")}
	for _, more := range [][]step{{}, {arm(1, 1)}, {arm(3, 2)}, {crash(3)}, {crash(3), arm(2, 0)}, {crash(0), start()}, {arm(2, 3), write("c", "7")}} {
		d := with(t, 9, append(slices.Clone(files), more...)...)
		c := d.Clone()
		if c == d || c.Up() != d.Up() || c.Used() != d.Used() || whole(c) != whole(d) {
			t.Errorf("%v: a clone\n%s\nof\n%s", more, whole(c), whole(d))
		}
		if cc := c.Clone(); whole(cc) != whole(d) {
			t.Errorf("%v: a clone's clone\n%s\nof\n%s", more, whole(cc), whole(d))
		}
	}
	c := with(t, 9, files...).Clone()
	has(t, c, "a", "1256", "c", "34")
	behind(t, c, 0, "a", "12", "c", "")
	behind(t, c, 3, "a", "125", "c", "34")
	is(t, c.Append("a", []byte("7890")), api.ErrFull)
	is(t, c.Append("a", []byte("789")), api.OK)
	c = with(t, 9, append(files, arm(2, 1))...).Clone()
	is(t, c.Append("a", []byte("7")), api.OK)
	is(t, c.Append("a", []byte("8")), api.ErrDown)
	c = c.Clone()
	if c.Up() || len(c.List()) != 0 || c.Used() != 3 {
		t.Errorf("%v %v %d", c.Up(), c.List(), c.Used())
	}
	c.Start()
	has(t, c, "a", "12", "c", "3")
}

// G2, R3: a disk and its clone do not hear of each other's calls, nor do two disks.
func TestClonesAreApart(t *testing.T) {
	files := []step{create("a"), write("a", "12"), create("b"), write("b", "34"), arm(5, 2)}
	calls := []step{create("c"), write("a", "5"), write("b", "678"), syncs("a"), syncs("b"), rename("a", "b"), rename("b", "c"), rename("a", "a"), remove("a"), remove("b"), crash(0), crash(3), arm(0, 0), arm(1, 9), create("")}
	for _, first := range calls {
		for _, second := range calls {
			d, other := with(t, 9, files...), with(t, 9, files...)
			was := whole(d)
			c := d.Clone()
			done(c, first)
			done(c, second)
			if now := whole(d); now != was {
				t.Errorf("%v, %v on a clone: the disk was\n%s\nis\n%s", first, second, was, now)
			}
			c = d.Clone()
			done(d, first)
			done(d, second)
			if now := whole(c); now != was {
				t.Errorf("%v, %v on a disk: its clone was\n%s\nis\n%s", first, second, was, now)
			}
			if now := whole(other); now != was {
				t.Errorf("%v, %v: another disk was\n%s\nis\n%s", first, second, was, now)
			}
		}
	}
}

// G2, R1: both go on behind the same bytes, in whatever memory these are.
func TestClonesGoOn(t *testing.T) {
	d := with(t, 99, create("a"), write("a", "1"), write("a", "2"), write("a", "3"), write("a", "4567"), crash(4), start())
	c := d.Clone()
	is(t, d.Append("a", []byte("x")), api.OK)
	is(t, c.Append("a", []byte("y")), api.OK)
	e := c.Clone()
	is(t, c.Append("a", []byte("z")), api.OK)
	is(t, e.Append("a", []byte("w")), api.OK)
	has(t, d, "a", "1234x")
	has(t, c, "a", "1234yz")
	has(t, e, "a", "1234yw")
}

// R1: what is handed in stays as it was, and is not kept.
func TestHandedIn(t *testing.T) {
	d := with(t, 99, create("a"))
	b := append(make([]byte, 0, 9), "123"...)
	is(t, d.Append("a", b), api.OK)
	if string(b[:9]) != "123\x00\x00\x00\x00\x00\x00" {
		t.Errorf("%q", b[:9])
	}
	copy(b, "xyz")
	has(t, d, "a", "123")
	is(t, d.Append("a", b[:2]), api.OK)
	if string(b[:9]) != "xyz\x00\x00\x00\x00\x00\x00" {
		t.Errorf("%q", b[:9])
	}
	clear(b[:9])
	has(t, d, "a", "123xy")
	is(t, d.Append("a", make([]byte, 100)), api.ErrFull)
	has(t, d, "a", "123xy")
}

// R1: what is answered is its owner's: written over, or appended to, it changes nothing.
func TestAnswersAreTheCallers(t *testing.T) {
	d := with(t, 99, create("a"), write("a", "12"), write("a", "3"), write("a", "45"), create("b"), syncs("a"), write("a", "6"))
	was := whole(d)
	for range 3 {
		b, _ := d.Read("a")
		again, _ := d.Read("a")
		b = append(b, "789"...)
		clear(b[:cap(b)])
		if string(again) != "123456" {
			t.Errorf("%q", again)
		}
		l, other := d.List(), d.List()
		l = append(l, "c")
		clear(l[:cap(l)])
		if !slices.Equal(other, []string{"a", "b"}) {
			t.Errorf("%q", other)
		}
		// What was read may be handed in again.
		c := d.Clone()
		is(t, c.Append("a", again), api.OK)
		clear(again)
		has(t, c, "a", "123456123456", "b", "")
	}
	b, _ := d.Read("a")
	if now := whole(d); now != was {
		t.Errorf("was\n%s\nis\n%s", was, now)
	}
	is(t, d.Append("a", []byte("7")), api.OK)
	d.Crash(0)
	d.Start()
	is(t, d.Append("a", []byte("zzz")), api.OK)
	if string(b) != "123456" {
		t.Errorf("%q", b)
	}
}

// steps are calls of all kinds, few of each.
func steps() []step {
	return []step{
		create("a"), create("b"), write("a", "12"), write("a", "3"), write("b", "45"), write("b", "678"), syncs("a"), syncs("b"),
		rename("a", "b"), rename("b", "a"), rename("a", "c"), remove("a"), crash(2), start(), arm(1, 1), arm(2, 3), create(""),
	}
}

// same does a step on both, and holds them against each other.
func same(t *testing.T, d *Disk, m *model, s step) {
	t.Helper()
	if got, want := done(d, s), done(m, s); got != want {
		t.Fatalf("%v: %s, not %s", s, got, want)
	}
	if got, want := shown(d), shown(m); got != want {
		t.Fatalf("%v: %s, not %s", s, got, want)
	}
}

func sameWhole(t *testing.T, d *Disk, m *model) {
	t.Helper()
	if got, want := whole(d), whole(m); got != want {
		t.Fatalf("\n%s\nnot\n%s", got, want)
	}
}

// G1 to G3: all rows of few calls behind some beginnings, held against the model; what branches off does so by Clone.
func TestAllShortRows(t *testing.T) {
	var walk func(d *Disk, m *model, depth int)
	walk = func(d *Disk, m *model, depth int) {
		sameWhole(t, d, m)
		for _, s := range steps() {
			if depth > 0 {
				c, n := d.Clone(), m.Clone()
				same(t, c, n, s)
				walk(c, n, depth-1)
			}
		}
	}
	beginnings := [][]step{
		{},
		{create("a"), write("a", "1"), create("b"), write("b", "2"), write("a", "3")},
		{create("a"), write("a", "12"), syncs("a"), create("c"), write("c", "3"), write("a", "4"), create("b"), write("b", "5"), arm(3, 2)},
	}
	for _, l := range beginnings {
		d, m := New(8), newModel(8)
		for _, s := range l {
			same(t, d, m, s)
		}
		walk(d, m, 3)
	}
}

// anyStep is one of all kinds of calls, with a name that often is there, chosen by next.
func anyStep(next func(n int) int) step {
	names := []string{"a", "b", "c", "a", "b", "c", "d", "", long(64), long(65)}
	calls := []string{"Create", "Append", "Append", "Append", "Append", "Sync", "Rename", "Delete", "Read", "List", "Used", "Up", "Start", "Start", "Crash", "Arm"}
	s := step{call: calls[next(len(calls))], name: names[next(len(names))], to: names[next(len(names))], n: next(12) - 2, keep: next(14) - 1}
	for range next(7) {
		s.b += string(rune('a' + next(26)))
	}
	return s
}

// G1 to G3: long rows of calls, on one disk, held against the model.
func TestLongRows(t *testing.T) {
	for seed := range uint64(200) {
		next := rand.New(rand.NewPCG(seed, 1)).IntN
		capacity := next(40) - 3
		d, m := New(capacity), newModel(capacity)
		for k := range 400 {
			same(t, d, m, anyStep(next))
			if k%20 == 0 {
				sameWhole(t, d, m)
			}
			// Crashes and Creates alone would leave little to see.
			if k%7 == 0 {
				same(t, d, m, start())
			}
		}
		sameWhole(t, d, m)
	}
}

// What follows: synced bytes stay, of each file a beginning stays, and behind the first call of which bytes were lost all others' bytes are lost.
func TestWhatFollows(t *testing.T) {
	type call struct{ name, b string }
	for seed := range uint64(300) {
		next := rand.New(rand.NewPCG(seed, 2)).IntN
		d := with(t, 999, create("a"), create("b"), create("c"))
		synced, all := map[string]string{}, map[string]string{}
		var calls []call
		for range next(30) {
			x := call{string(rune('a' + next(3))), long(next(5))}
			if next(4) == 0 {
				is(t, d.Sync(x.name), api.OK)
				synced[x.name] = all[x.name]
				calls = slices.DeleteFunc(calls, func(y call) bool { return y.name == x.name })
				continue
			}
			is(t, d.Append(x.name, []byte(x.b)), api.OK)
			all[x.name] += x.b
			calls = append(calls, x)
		}
		left := next(40)
		d.Crash(left)
		d.Start()
		for _, x := range calls {
			n := min(left, len(x.b))
			left -= n
			synced[x.name] += x.b[:n]
		}
		has(t, d, "a", synced["a"], "b", synced["b"], "c", synced["c"])
		for name, b := range synced {
			if !strings.HasPrefix(all[name], b) {
				t.Errorf("%s: %q is no beginning of %q", name, b, all[name])
			}
		}
	}
}

// R4: the same calls have the same answers.
func TestAgain(t *testing.T) {
	run := func() string {
		next := rand.New(rand.NewPCG(5, 5)).IntN
		d := New(50)
		var b strings.Builder
		for range 2000 {
			b.WriteString(done(d, anyStep(next)) + " " + shown(d) + "\n")
		}
		return b.String()
	}
	if run() != run() {
		t.Error("other answers")
	}
}

// G1 to G3: many files and many pieces.
func TestMany(t *testing.T) {
	const n = 3000
	d := New(2 * n)
	var want []string
	for i := range n {
		name := fmt.Sprintf("file %06d", i)
		want = append(want, name)
		is(t, d.Create(name), api.OK)
		is(t, d.Append(name, []byte("1")), api.OK)
	}
	for _, name := range want {
		is(t, d.Append(name, []byte("2")), api.OK)
	}
	is(t, d.Append(want[0], []byte("3")), api.ErrFull)
	if !slices.Equal(d.List(), want) || d.Used() != 2*n {
		t.Errorf("%d files, %d bytes", len(d.List()), d.Used())
	}
	d.Crash(n + 10)
	d.Start()
	for i, name := range want {
		b, e := d.Read(name)
		if e != api.OK || len(b) != 1 && i >= 10 || len(b) != 2 && i < 10 {
			t.Fatalf("%s: %q %v", name, b, e)
		}
	}
}

// G1 to G3: any calls, held against the model.
func FuzzDisk(f *testing.F) {
	f.Add(9, []byte("calls"))
	f.Add(-1, []byte{0, 0, 0, 0, 0, 1, 0, 0, 0, 0, 3, 1, 2, 3, 14, 0, 0, 0, 2})
	f.Add(30, make([]byte, 99))
	f.Fuzz(func(t *testing.T, capacity int, b []byte) {
		next := func(n int) int {
			if len(b) == 0 {
				return 0
			}
			x := int(b[0]) % n
			b = b[1:]
			return x
		}
		capacity %= 100
		d, m := New(capacity), newModel(capacity)
		for range min(len(b)/6, 200) {
			same(t, d, m, anyStep(next))
		}
		sameWhole(t, d, m)
	})
}
