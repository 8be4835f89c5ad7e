package summary

import (
	"math"
	"math/rand/v2"
	"slices"
	"strings"
	"testing"

	"marlstone/api"
)

// heldCovering holds Covering of l, and of no other answer's memory, against the model.
func heldCovering(t *testing.T, l []api.Table, key string) []int {
	t.Helper()
	ahead := slices.Clone(l)
	at, want := Covering(l, key), modelCovering(l, key)
	if !slices.Equal(at, want) {
		t.Fatalf("Covering of %.300v, %q: %v, not %v", l, key, at, want)
	}
	clear(at)
	if again := Covering(l, key); !slices.Equal(again, want) || !slices.Equal(l, ahead) {
		t.Fatalf("Covering of %.300v, %q, again: %v, not %v", l, key, again, want)
	}
	return want
}

// heldOverlapping holds Overlapping of l likewise.
func heldOverlapping(t *testing.T, l []api.Table, lo, hi string) []int {
	t.Helper()
	ahead := slices.Clone(l)
	at, want := Overlapping(l, lo, hi), modelOverlapping(l, lo, hi)
	if !slices.Equal(at, want) {
		t.Fatalf("Overlapping of %.300v, %q to %q: %v, not %v", l, lo, hi, at, want)
	}
	clear(at)
	if again := Overlapping(l, lo, hi); !slices.Equal(again, want) || !slices.Equal(l, ahead) {
		t.Fatalf("Overlapping of %.300v, %q to %q, again: %v, not %v", l, lo, hi, again, want)
	}
	return want
}

// odd are lists of which none is right, though it may be asked which of their tables have what.
func odd() [][]api.Table {
	return [][]api.Table{
		make([]api.Table, 3),
		tables("3:a-c 2:b-d 1:c-e 0:d-f"),
		tables("1:a-z 1:b-y 1:c-x"),
		tables("1:c-d 1:a-b 1:b-c"),
		tables("0:d-b 1:c-a 2:k-k 2:k-k"),
		{{Level: -1, Count: -1, First: "b", Last: "d"}, {Level: math.MaxInt, Count: math.MinInt, First: "c", Last: "c"}, {First: "", Last: "c"}, {First: "c", Last: ""}},
		{{First: long(129), Last: long(300)}, {First: "", Last: long(1000)}, {First: long(128), Last: long(129)}},
		{{First: "\x00", Last: "\xff"}, {First: "\x7f", Last: "\x80"}, {First: "\xff", Last: "\xff\xff"}},
	}
}

// keysOf are the ends of l, those just above and below each, some farther off, and the empty one.
func keysOf(l []api.Table) []string {
	keys := []string{"", "\x00", "a", "b", "c", "k", "z", "\xff", "\xff\xff", long(129), long(300)}
	for _, x := range l {
		for _, key := range []string{x.First, x.Last} {
			keys = append(keys, key, key+"\x00", key+"\xff")
			if n := len(key) - 1; n >= 0 {
				keys = append(keys, key[:n], key[:n]+string([]byte{key[n] - 1}), key[:n]+string([]byte{key[n] + 1}))
			}
		}
	}
	slices.Sort(keys)
	return slices.Compact(keys)
}

// N3: told key by key.
func TestCoveringTold(t *testing.T) {
	l := tables("0:a-k 1:b-b 1:c-f 2:a-c 2:f-g 3:m-m")
	for key, want := range map[string][]int{
		"":      nil,
		"A":     nil,
		"a":     {0, 3},
		"a\x00": {0, 3},
		"b":     {0, 1, 3},
		"b\x00": {0, 3},
		"bz":    {0, 3},
		"c":     {0, 2, 3},
		"c\x00": {0, 2},
		"d":     {0, 2},
		"f":     {0, 2, 4},
		"f\x00": {0, 4},
		"g":     {0, 4},
		"g\x00": {0},
		"k":     {0},
		"k\x00": nil,
		"l":     nil,
		"m":     {5},
		"m\x00": nil,
		"\xff":  nil,
	} {
		if at := Covering(l, key); !slices.Equal(at, want) {
			t.Errorf("Covering %q: %v, not %v", key, at, want)
		}
		heldCovering(t, l, key)
	}
}

// N3: told range by range: ends that touch, an empty hi, and ranges without keys.
func TestOverlappingTold(t *testing.T) {
	l := tables("0:a-k 1:b-b 1:c-f 2:a-c 2:f-g 3:m-m")
	for _, c := range []struct {
		lo, hi string
		want   []int
	}{
		{"", "", []int{0, 1, 2, 3, 4, 5}},
		{"a", "", []int{0, 1, 2, 3, 4, 5}},
		{"b", "", []int{0, 1, 2, 3, 4, 5}},
		{"b\x00", "", []int{0, 2, 3, 4, 5}},
		{"c", "", []int{0, 2, 3, 4, 5}},
		{"c\x00", "", []int{0, 2, 4, 5}},
		{"k", "", []int{0, 5}},
		{"k\x00", "", []int{5}},
		{"m", "", []int{5}},
		{"m\x00", "", nil},
		{"\xff", "", nil},
		{"", "a", nil},
		{"", "a\x00", []int{0, 3}},
		{"", "b", []int{0, 3}},
		{"", "b\x00", []int{0, 1, 3}},
		{"", "c", []int{0, 1, 3}},
		{"", "c\x00", []int{0, 1, 2, 3}},
		{"", "z", []int{0, 1, 2, 3, 4, 5}},
		{"b", "c", []int{0, 1, 3}},
		{"b", "b\x00", []int{0, 1, 3}},
		{"b\x00", "c", []int{0, 3}},
		{"f", "g", []int{0, 2, 4}},
		{"g", "h", []int{0, 4}},
		{"k", "m", []int{0}},
		{"k\x00", "m", nil},
		{"l", "m\x00", []int{5}},
		{"m", "n", []int{5}},
		{"n", "z", nil},
		{"b", "b", nil},
		{"c", "b", nil},
		{"z", "a", nil},
		{"a", "a", nil},
		{"b", "a", nil},
	} {
		if at := Overlapping(l, c.lo, c.hi); !slices.Equal(at, c.want) {
			t.Errorf("Overlapping %q to %q: %v, not %v", c.lo, c.hi, at, c.want)
		}
		heldOverlapping(t, l, c.lo, c.hi)
	}
}

// N3: of no tables none has anything.
func TestPlacesOfNothing(t *testing.T) {
	for _, l := range [][]api.Table{nil, {}} {
		for _, key := range keysOf(nil) {
			if len(Covering(l, key)) > 0 || len(Overlapping(l, key, "")) > 0 || len(Overlapping(l, "", key)) > 0 {
				t.Errorf("%q", key)
			}
		}
	}
}

// N3: lists that are right, and any others.
func TestPlacesOfAny(t *testing.T) {
	lists := slices.Concat(odd(), some(), [][]api.Table{many(30), tables("0:a-k 1:b-b 1:c-f 2:a-c 2:f-g 3:m-m"), tables("0:c-d 0:a-b 0:b-c 0:a-d")})
	for _, l := range odd() {
		if Right(l) {
			t.Errorf("right: %v", l)
		}
	}
	for _, l := range lists {
		keys := keysOf(l)
		for _, lo := range keys {
			heldCovering(t, l, lo)
			for _, hi := range keys {
				heldOverlapping(t, l, lo, hi)
			}
		}
	}
}

// N3: lists with very many tables, and such as are not right for that alone.
func TestPlacesOfMany(t *testing.T) {
	for _, n := range []int{511, 512, 513, 5000} {
		l := many(n)
		for i := 0; i < n; i += 37 {
			heldCovering(t, l, l[i].First)
			heldOverlapping(t, l, l[i].Last, "")
			heldOverlapping(t, l, "", l[i].First)
			heldOverlapping(t, l, l[i].First, l[i].Last)
		}
		if len(heldCovering(t, l, l[n/4].First)) < 5 || len(heldOverlapping(t, l, "", "")) != n {
			t.Errorf("few of %d", n)
		}
	}
}

// N3: tables by chance, in any order, with any keys.
func TestPlacesDrawn(t *testing.T) {
	r := rand.New(rand.NewPCG(14, 4))
	key := func() string { return strings.Repeat("a", r.IntN(3)) + string(rune('a'+r.IntN(6))) }
	for range 20000 {
		var l []api.Table
		for range r.IntN(8) {
			l = append(l, api.Table{Level: r.IntN(6) - 1, Count: r.IntN(4), First: key(), Last: key()})
		}
		heldCovering(t, l, key())
		heldOverlapping(t, l, key(), key())
		heldOverlapping(t, l, key(), "")
		heldOverlapping(t, l, "", key())
	}
}

// N3, what follows: of a right list at most one table of each level above 0 covers a key.
func TestOneOfALevelCovers(t *testing.T) {
	r := rand.New(rand.NewPCG(14, 5))
	lists := append(some(), many(60))
	for range 3000 {
		lists = append(lists, drawn(r.IntN))
	}
	covered := 0
	for _, l := range lists {
		if !Right(l) {
			continue
		}
		for _, key := range keysOf(l) {
			of := map[int]int{}
			for _, at := range heldCovering(t, l, key) {
				of[l[at].Level]++
				if l[at].Level > 0 && of[l[at].Level] > 1 {
					t.Fatalf("%v: two of the level %d cover %q", l, l[at].Level, key)
				}
				covered++
			}
		}
	}
	if covered < 1000 {
		t.Errorf("only %d covered", covered)
	}
}

// N3: what covers a key overlaps the keys from it on to the next one.
func TestCoveringIsOverlapping(t *testing.T) {
	for _, l := range append(some(), many(60)) {
		for _, key := range keysOf(l) {
			if c, o := Covering(l, key), Overlapping(l, key, key+"\x00"); !slices.Equal(c, o) {
				t.Errorf("%q: %v cover it, %v overlap it", key, c, o)
			}
		}
	}
}

// N3: no call panics, and each answer is the model's, whatever the tables and keys are.
func FuzzPlaces(f *testing.F) {
	f.Add("", "", "", 0)
	f.Add("a\nk\nb\nb\nc\nf", "b", "c", 1)
	f.Add("\x00\n\xff\n\n\xff\xff\nz\na", "\xff", "", -7)
	f.Fuzz(func(t *testing.T, ends, lo, hi string, number int) {
		keys := strings.Split(ends, "\n")
		var l []api.Table
		for i := 1; i < len(keys); i += 2 {
			l = append(l, api.Table{Level: number, Count: i, First: keys[i-1], Last: keys[i]})
		}
		heldCovering(t, l, lo)
		heldCovering(t, l, hi)
		heldOverlapping(t, l, lo, hi)
		heldOverlapping(t, l, lo, "")
		held(t, l)
	})
}
