package move

import (
	"fmt"
	"math/rand/v2"
	"slices"
	"testing"

	"marlstone/api"
)

// S2: what is merged next, written out.
func TestInputsWrittenOut(t *testing.T) {
	for _, x := range []struct {
		store string
		want  []int
		to    int
	}{
		// No level has more tables than at rest.
		{"", nil, 0},
		{"0:a=1", nil, 0},
		{filled(0, 4, "a"), nil, 0},
		{filled(1, 8, "a"), nil, 0},
		{filled(2, 32, "a"), nil, 0},
		{filled(3, 99, "a"), nil, 0},
		{filled(0, 4, "a") + filled(1, 8, "a") + filled(2, 32, "a") + filled(3, 99, "a"), nil, 0},
		// All of the level 0, and what stands below them.
		{filled(0, 5, "a"), []int{0, 1, 2, 3, 4}, 1},
		{filled(0, 6, "a"), []int{0, 1, 2, 3, 4, 5}, 1},
		{filled(0, 5, "a") + "1:Z=1 1:a01=1 1:a04=1 1:a05=1 2:a=1", []int{0, 1, 2, 3, 4, 6, 7}, 1},
		{filled(0, 5, "a") + "1:A=1,z=1", []int{0, 1, 2, 3, 4, 5}, 1},
		{filled(0, 5, "a") + filled(1, 9, "a") + filled(2, 33, "a"), []int{0, 1, 2, 3, 4, 5, 6, 7, 8, 9}, 1},
		// The first one of the level 1.
		{filled(1, 9, "a"), []int{0}, 2},
		{"0:a=1" + filled(1, 9, "a") + "2:A=1 2:Z=1,a00=1 2:a01=1 3:a00=1", []int{1, 11}, 2},
		{filled(1, 9, "a") + filled(2, 33, "a"), []int{0, 9}, 2},
		// The first one of the level 2.
		{filled(2, 33, "a"), []int{0}, 3},
		{"0:a=1 1:a=1 2:a=1,c=1" + filled(2, 32, "d") + " 3:A=1 3:Z=1,a=1 3:b=1 3:c=1,d=1 3:e=1", []int{2, 36, 37, 38}, 3},
	} {
		l := made(256, x.store).l
		got, to, is := picks(t, l, x.store)
		if !slices.Equal(got, x.want) || to != x.to || is != (x.to > 0) {
			t.Errorf("Inputs of %.200s: %v, %d, %v, not %v, %d", x.store, got, to, is, x.want, x.to)
		}
	}
}

// S2: of lists that are not right nothing is told, though Pick would tell something.
func TestInputsOfWrongLists(t *testing.T) {
	for name, l := range wrongLists() {
		if got, to, is := picks(t, l, name); len(got) > 0 || to != 0 || is {
			t.Errorf("Inputs of a list with %s: %v, %d, %v", name, got, to, is)
		}
	}
	for _, to := range []int{1, 2, 3} {
		l := ready(256, to, "a=1", "a=1 b=1").l
		for i := range l {
			wrong := slices.Clone(l)
			wrong[i].Count = 2
			if got, to, is := picks(t, wrong, "one is none"); len(got) > 0 || to != 0 || is {
				t.Errorf("Inputs of a list in which %d is no table: %v, %d, %v", i, got, to, is)
			}
		}
	}
}

// S2: of what Inputs is asked, entries do not matter: tables that nobody has, by chance, right and not.
func TestInputsByChance(t *testing.T) {
	r := rand.New(rand.NewPCG(17, 3))
	var times [4]int
	wrong := 0
	for n := range 2000 {
		var l []api.Table
		for level, most := range []int{7, 11, 36, 9} {
			for i := range r.IntN(most) {
				x := api.Table{Level: level, Count: 1 + r.IntN(64), Root: api.Digest{byte(i)}, First: fmt.Sprintf("%02d", 2*i+r.IntN(2))}
				x.Last = x.First + fmt.Sprint(r.IntN(3))
				if x.Count == 1 {
					x.Last = x.First
				}
				if level == 0 {
					x.First, x.Last = fmt.Sprint(r.IntN(5)), fmt.Sprint(5+r.IntN(5))
					x.Count++
					x.Count = min(x.Count, 64)
				}
				l = append(l, x)
			}
		}
		if len(l) > 1 && n%4 == 0 {
			i, j := r.IntN(len(l)), r.IntN(len(l))
			l[i], l[j] = l[j], l[i]
		}
		_, to, is := picks(t, l, "by chance")
		if !modelRight(l) {
			wrong++
		}
		if is {
			times[to]++
		}
	}
	if times[1] < 50 || times[2] < 50 || times[3] < 20 || wrong < 50 {
		t.Errorf("%v, %d not right: too few to say anything", times, wrong)
	}
}
