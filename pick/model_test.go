package pick

import (
	"sort"
	"strings"

	"marlstone/api"
)

// Cap, Score and Pick as the chapter's words have them, by another road than the program's: numbers written out, entries added up level by level, places by level, ends that are sorted, and tables that are marked.

func modelCap(level int) int {
	caps := map[int]int{0: 4, 1: 8, 2: 32}
	if n, bound := caps[level]; bound {
		return n
	}
	return -1
}

func modelScore(l []api.Table) int {
	score := 0
	for level := range 3 {
		for _, x := range l {
			// Counted once at each level that it is on or has passed, as there are so many levels below.
			if x.Level == 0 || x.Level > 0 && x.Level <= level {
				score += x.Count
			}
		}
	}
	return score
}

func modelPick(l []api.Table) ([]int, int, bool) {
	of := map[int][]int{}
	for i, x := range l {
		of[x.Level] = append(of[x.Level], i)
	}
	switch {
	case len(of[0]) >= 5:
		return modelInputs(l, of[0], of[1]), 1, true
	case len(of[1]) >= 9:
		return modelInputs(l, of[1][:1], of[2]), 2, true
	case len(of[2]) >= 33:
		return modelInputs(l, of[2][:1], of[3]), 3, true
	}
	return nil, 0, false
}

// modelInputs is the places of upper, and of those of lower that are neither above upper's range nor below it.
func modelInputs(l []api.Table, upper, lower []int) []int {
	picked := make([]bool, len(l))
	var firsts, lasts []string
	for _, i := range upper {
		picked[i] = true
		firsts = append(firsts, l[i].First)
		lasts = append(lasts, l[i].Last)
	}
	sort.Strings(firsts)
	sort.Strings(lasts)
	for _, i := range lower {
		above := strings.Compare(l[i].First, lasts[len(lasts)-1]) == 1
		below := strings.Compare(l[i].Last, firsts[0]) == -1
		picked[i] = !above && !below
	}
	var at []int
	for i, is := range picked {
		if is {
			at = append(at, i)
		}
	}
	return at
}
