package pick

import (
	"math"
	"math/rand/v2"
	"slices"
	"testing"

	"marlstone/api"
)

// heldScore holds Score of l against the model, and that l stays as it was.
func heldScore(t *testing.T, l []api.Table) int {
	t.Helper()
	ahead := slices.Clone(l)
	got, want := Score(l), modelScore(l)
	if got != want || Score(l) != want {
		t.Fatalf("Score of %s: %d, not %d", brief(l), got, want)
	}
	if !slices.Equal(l, ahead) {
		t.Fatalf("Score of %s: it is %s now", brief(ahead), brief(l))
	}
	return want
}

// O1: each level's bound, and none of any other.
func TestCap(t *testing.T) {
	for level, want := range map[int]int{
		0: 4, 1: 8, 2: 32, 3: -1,
		-1: -1, -2: -1, -3: -1, -4: -1, 4: -1, 5: -1, 8: -1, 32: -1,
		math.MinInt: -1, math.MaxInt: -1, 1 << 32: -1, 1<<32 + 1: -1, 1<<32 + 2: -1, 256: -1, 257: -1, 258: -1, -256: -1, math.MinInt + 2: -1,
	} {
		if n := Cap(level); n != want || Cap(level) != want {
			t.Errorf("Cap of %d: %d, not %d", level, n, want)
		}
	}
	if Cap(0) != api.MaxNew {
		t.Errorf("%d", Cap(0))
	}
	for level := -1000; level <= 1000; level++ {
		if n := Cap(level); n != modelCap(level) {
			t.Errorf("Cap of %d: %d", level, n)
		}
	}
}

// O1: told list by list.
func TestScoreTold(t *testing.T) {
	for s, want := range map[string]int{
		"":                                      0,
		"0:a-b#10 2:c-d#5":                      35,
		"0:a-b#10":                              30,
		"1:a-b#10":                              20,
		"2:a-b#10":                              10,
		"3:a-b#10":                              0,
		"0:a-a#1":                               3,
		"1:a-a#1":                               2,
		"2:a-a#1":                               1,
		"3:a-a#1":                               0,
		"0:a-b#64":                              192,
		"-1:a-b#10":                             0,
		"-2:a-b#10":                             0,
		"4:a-b#10":                              0,
		"5:a-b#10":                              0,
		"256:a-b#10":                            0,
		"-256:a-b#10":                           0,
		"-9223372036854775808:a-b#10":           0,
		"9223372036854775807:a-b#10":            0,
		"4294967296:a-b#10":                     0,
		"0:a-b#1 1:a-b#10 2:a-b#100 3:a-b#1000": 123,
		"3:a-b#1000 2:a-b#100 1:a-b#10 0:a-b#1": 123,
		"0:a-b#7 0:a-b#7 0:a-b#7":               63,
		"1:a-b#7 1:c-d#9":                       32,
		"0:a-b#3 -1:a-b#50 1:a-b#4 4:a-b#50 2:a-b#5 9:a-b#50": 22,
		"-1:a-b#50 -1:a-b#50 4:a-b#50":                        0,
		"5*0:a-b#2 8*1:a-b#2 32*2:a-b#2 100*3:a-b#2":          30 + 32 + 64,
		"0:b-a#10":                   30,
		"0:-#10":                     30,
		"0:a-b#0 1:a-b#0":            0,
		"0:a-b#1000000 1:c-d#100000": 3200000,
		"99*0:a-b#64 99*1:a-b#64 99*2:a-b#64 99*3:a-b#64":      99 * 64 * 6,
		"0:a-b#10 0:a-b#10 0:a-b#10 0:a-b#10 0:a-b#10 1:b-c#1": 152,
	} {
		l := tables(s)
		if n := Score(l); n != want {
			t.Errorf("Score of %s: %d, not %d", s, n, want)
		}
		heldScore(t, l)
	}
	for _, l := range [][]api.Table{nil, {}, make([]api.Table, 9)} {
		if n := Score(l); n != 0 {
			t.Errorf("Score of %s: %d", brief(l), n)
		}
	}
}

// O1: the score of a list is that of its parts together, and hangs on levels and counts alone, in whatever order they stand.
func TestScoreOfParts(t *testing.T) {
	r := rand.New(rand.NewPCG(15, 1))
	for range 3000 {
		l := drawn(r.IntN)
		want := heldScore(t, l)
		at := r.IntN(len(l) + 1)
		if a, b := Score(l[:at]), Score(l[at:]); a+b != want {
			t.Fatalf("Score of %s: %d and %d, not %d", brief(l), a, b, want)
		}
		r.Shuffle(len(l), func(i, j int) { l[i], l[j] = l[j], l[i] })
		for i := range l {
			l[i] = api.Table{Level: l[i].Level, Count: l[i].Count}
		}
		if n := heldScore(t, l); n != want {
			t.Fatalf("Score of %s: %d, not %d", brief(l), n, want)
		}
	}
}

// R2: counts that no table has are added up, too.
func TestScoreOfAnyCount(t *testing.T) {
	for _, count := range []int{math.MinInt, math.MinInt + 1, -65, -1, 0, 1, 65, math.MaxInt/3 + 1, math.MaxInt - 1, math.MaxInt} {
		for level := -3; level <= 6; level++ {
			x := api.Table{Level: level, Count: count}
			heldScore(t, []api.Table{x})
			heldScore(t, []api.Table{x, {Count: 1}, x, {Level: 1, Count: 2}, x})
		}
	}
}
