package merge

import (
	"fmt"
	"sort"
	"strings"

	"marlstone/api"
)

// Merge and Split as the chapter's words have them, by another road than the program's: heads are places in the lists, all of which are looked at anew for each entry; parts are counted one by one.

func modelMerge(lists [][]api.Entry, bottom bool) []api.Entry {
	passed := make([]int, len(lists))
	has := func(i int) bool { return passed[i] < len(lists[i]) }
	var taken []api.Entry
	for {
		first := -1 // of those with the least key
		for i := range lists {
			if has(i) && (first < 0 || strings.Compare(lists[i][passed[i]].Key, lists[first][passed[first]].Key) == -1) {
				first = i
			}
		}
		if first < 0 {
			return taken
		}
		e := lists[first][passed[first]]
		if !bottom || !e.Del {
			taken = append(taken, e)
		}
		for i := range lists {
			if has(i) && lists[i][passed[i]].Key == e.Key {
				passed[i]++
			}
		}
	}
}

// modelNewest is of each key the entry of the first list that has it, by rising keys: what Merge is of lists whose keys rise.
func modelNewest(lists [][]api.Entry, bottom bool) []api.Entry {
	newest := map[string]api.Entry{}
	for i := len(lists) - 1; i >= 0; i-- {
		for _, e := range lists[i] {
			newest[e.Key] = e
		}
	}
	var l []api.Entry
	for _, e := range newest {
		if !bottom || !e.Del {
			l = append(l, e)
		}
	}
	sort.Slice(l, func(i, j int) bool { return l[i].Key < l[j].Key })
	return l
}

// modelLengths are those of the parts of n entries: entries are dealt out one by one, to as many parts as are needed.
func modelLengths(n int) []int {
	parts := 0
	for parts*64 < n {
		parts++
	}
	lengths := make([]int, parts)
	for i := range n {
		lengths[i%parts]++
	}
	return lengths
}

// told is a list's entries, whether it is nil or not.
func told(l []api.Entry) string {
	var b strings.Builder
	for _, e := range l {
		fmt.Fprintf(&b, " (%q %q %v %d)", e.Key, e.Value, e.Del, e.Seq)
	}
	return b.String()
}

// toldAll is what lists have, each with its beginning.
func toldAll(lists [][]api.Entry) string {
	var b strings.Builder
	for i, l := range lists {
		fmt.Fprintf(&b, " [%d]%s", i, told(l))
	}
	return b.String()
}
