package pick

import (
	"slices"

	"marlstone/api"
)

// table is one of a list, for what it is asked.
type table api.Table

func (x table) first() string { return x.First }

func (x table) last() string { return x.Last }

// wayDown is the table's entries, as often as there are levels below it.
func (x table) wayDown() int {
	if x.Level < 0 || x.Level > bottom {
		return 0
	}
	return x.Count * (bottom - x.Level)
}

// asked is what each of the tables answers.
func asked[T any](l []api.Table, question func(table) T) []T {
	var answers []T
	for _, x := range l {
		answers = append(answers, question(table(x)))
	}
	return answers
}

// onLevel means the tables of a level.
type onLevel int

func (level onLevel) has(x api.Table) bool { return x.Level == int(level) }

// stretch means the tables of a level that overlap the range from lo to hi.
type stretch struct {
	level  onLevel
	lo, hi string
}

func (s stretch) has(x api.Table) bool {
	return s.level.has(x) && x.First <= s.hi && x.Last >= s.lo
}

// touched means the tables of a level that overlap the range from the least First to the greatest Last of upper, which has one table at least.
func touched(level int, upper []api.Table) stretch {
	return stretch{onLevel(level), slices.Min(asked(upper, table.first)), slices.Max(asked(upper, table.last))}
}

// places are those of the tables that are meant, rising.
func places(l []api.Table, meant func(api.Table) bool) []int {
	var at []int
	for i, x := range l {
		if meant(x) {
			at = append(at, i)
		}
	}
	return at
}

// tablesAt is the tables at these places.
func tablesAt(l []api.Table, at []int) []api.Table {
	var tables []api.Table
	for _, i := range at {
		tables = append(tables, l[i])
	}
	return tables
}
