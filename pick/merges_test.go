package pick

import (
	"fmt"
	"maps"
	"math/rand/v2"
	"slices"
	"testing"

	"marlstone/api"
)

// What follows: tables are picked, taken out, and others come for them, till nothing is picked any more.

// without is l without the tables at these places.
func without(l []api.Table, at []int) []api.Table {
	var rest []api.Table
	for i, x := range l {
		if !slices.Contains(at, i) {
			rest = append(rest, x)
		}
	}
	return rest
}

// entries is how many the tables at these places have in all.
func entries(l []api.Table, at []int) int {
	n := 0
	for _, i := range at {
		n += l[i].Count
	}
	return n
}

// atRest asks that no level has more tables than its bound.
func atRest(t *testing.T, l []api.Table) {
	t.Helper()
	of := map[int]int{}
	for _, x := range l {
		of[x.Level]++
	}
	if of[0] > 4 || of[1] > 8 || of[2] > 32 {
		t.Fatalf("nothing is picked of %s", brief(l))
	}
}

// settled picks, and lets others come for what is picked, till nothing is picked; it asks that the score is less each time, and tells how often there was which level.
func settled(t *testing.T, l []api.Table, merged func(l []api.Table, at []int, to int) []api.Table) ([]api.Table, [4]int) {
	t.Helper()
	var times [4]int
	for score := Score(l); ; {
		at, to, is := Pick(l)
		if !is {
			atRest(t, l)
			return l, times
		}
		times[to]++
		l = merged(l, at, to)
		if less := Score(l); less >= score || less < 0 {
			t.Fatalf("the score was %d, and is %d, of %s", score, less, brief(l))
		} else {
			score = less
		}
	}
}

// O1, O2, what follows: of any list, whatever tables come, with as many entries as were picked, or less, or none.
func TestScoreIsLess(t *testing.T) {
	r := rand.New(rand.NewPCG(15, 5))
	kinds := []struct {
		name  string
		parts func(n int) []int // the counts of what comes for n entries
	}{
		{"nothing", func(n int) []int { return nil }},
		{"all in one", func(n int) []int { return []int{n} }},
		{"each for itself", func(n int) []int { return slices.Repeat([]int{1}, n) }},
		{"half of it", func(n int) []int { return []int{n/2 + 1} }},
		{"some", func(n int) []int {
			var parts []int
			for left := r.IntN(n + 1); left > 0; left -= parts[len(parts)-1] {
				parts = append(parts, 1+r.IntN(min(left, 64)))
			}
			return parts
		}},
	}
	for _, kind := range kinds {
		var times [4]int
		for range 150 {
			l := drawn(r.IntN)
			for i := range l {
				l[i].Count = 1 + l[i].Count%5
			}
			_, of := settled(t, l, func(l []api.Table, at []int, to int) []api.Table {
				rest := without(l, at)
				for _, n := range kind.parts(entries(l, at)) {
					x := one(fmt.Sprintf("%d:%c-%c#%d", to, 'A'+r.IntN(30), 'A'+r.IntN(30), n), 0)
					rest = slices.Insert(rest, r.IntN(len(rest)+1), x)
				}
				return rest
			})
			for to, n := range of {
				times[to] += n
			}
		}
		if times[0] > 0 || times[1] == 0 || times[2] == 0 || times[3] == 0 {
			t.Errorf("%s: %v", kind.name, times)
		}
	}
}

// store is a small store: tables in the chapter's order, and of each the keys that it has.
type store struct {
	t      *testing.T
	tables []api.Table
	keys   map[api.Digest][]string // by a table's root
	next   int
}

// made is a table with these keys, which rise.
func (s *store) made(level int, keys []string) api.Table {
	s.next++
	root := api.Digest{byte(s.next), byte(s.next >> 8), byte(s.next >> 16)}
	s.keys[root] = keys
	return api.Table{Level: level, Count: len(keys), Root: root, First: keys[0], Last: keys[len(keys)-1]}
}

// flush lets a table of the level 0 come, ahead of all others.
func (s *store) flush(keys []string) {
	s.tables = slices.Insert(s.tables, 0, s.made(0, keys))
}

// merged is l with all keys of what is picked in tables of a few keys each, each in its place.
func (s *store) merged(l []api.Table, at []int, to int) []api.Table {
	s.apart(l, at, to)
	all := map[string]bool{}
	for _, i := range at {
		for _, key := range s.keys[l[i].Root] {
			all[key] = true
		}
	}
	rest := without(l, at)
	for part := range slices.Chunk(slices.Sorted(maps.Keys(all)), 3) {
		x := s.made(to, part)
		place := slices.IndexFunc(rest, func(y api.Table) bool {
			return y.Level > to || y.Level == to && y.First > x.First
		})
		if place < 0 {
			place = len(rest)
		}
		rest = slices.Insert(rest, place, x)
	}
	return rest
}

// apart asks that no table that was not picked, of the level to which they go, overlaps the range of all that were.
func (s *store) apart(l []api.Table, at []int, to int) {
	s.t.Helper()
	lo, hi := l[at[0]].First, l[at[0]].Last
	for _, i := range at {
		lo, hi = min(lo, l[i].First), max(hi, l[i].Last)
	}
	for i, x := range l {
		if x.Level == to && !slices.Contains(at, i) && x.First <= hi && x.Last >= lo {
			s.t.Fatalf("%v, %d: %d overlaps %q to %q, of %s", at, to, i, lo, hi, brief(l))
		}
	}
}

// ordered asks that levels rise, and that keys rise in each level from 1 on.
func (s *store) ordered() {
	s.t.Helper()
	for i := 1; i < len(s.tables); i++ {
		x, y := s.tables[i-1], s.tables[i]
		if x.Level > y.Level || x.Level == y.Level && x.Level > 0 && x.Last >= y.First {
			s.t.Fatalf("%d and %d: %s", i-1, i, brief(s.tables))
		}
	}
}

// O1, O2, what follows: in a store of which no two tables of a level from 1 on overlap one another, that stays so.
func TestStore(t *testing.T) {
	r := rand.New(rand.NewPCG(15, 6))
	for _, width := range []int{3, 40, 400, 4000} {
		s := &store{t: t, keys: map[api.Digest][]string{}}
		known := map[string]bool{}
		var times [4]int
		for range 300 {
			keys := map[string]bool{}
			for range 1 + r.IntN(8) {
				key := fmt.Sprintf("%04d", r.IntN(width))
				keys[key], known[key] = true, true
			}
			s.flush(slices.Sorted(maps.Keys(keys)))
			held(t, s.tables)
			var of [4]int
			s.tables, of = settled(t, s.tables, s.merged)
			s.ordered()
			for to, n := range of {
				times[to] += n
			}
		}
		has := map[string]bool{}
		for _, x := range s.tables {
			for _, key := range s.keys[x.Root] {
				has[key] = true
			}
		}
		if !maps.Equal(has, known) {
			t.Errorf("%d: %d keys, not %d", width, len(has), len(known))
		}
		if times[1] == 0 || width >= 400 && (times[2] == 0 || times[3] == 0) {
			t.Errorf("%d: %v", width, times)
		}
	}
}
