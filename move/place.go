package move

import (
	"slices"

	"marlstone/api"
)

// Place is l with parts in the place of the tables at the places inputs (S2).
func Place(l []api.Table, inputs []int, parts []api.Table) []api.Table {
	placed := without(l, inputs)
	for _, part := range parts {
		placed = slices.Insert(placed, placeOf(placed, part), part)
	}
	return placed
}

// without is the tables of l that do not stand at these places.
func without(l []api.Table, places []int) []api.Table {
	out := make([]bool, len(l))
	for _, i := range places {
		if i >= 0 && i < len(l) {
			out[i] = true
		}
	}
	var rest []api.Table
	for i, x := range l {
		if !out[i] {
			rest = append(rest, x)
		}
	}
	return rest
}

// placeOf is where part comes to stand in l.
func placeOf(l []api.Table, part api.Table) int {
	for i, x := range l {
		if x.Level > part.Level || x.Level == part.Level && x.First >= part.First {
			return i
		}
	}
	return len(l)
}
