package merge

import (
	"cmp"
	"container/heap"
	"strings"

	"marlstone/api"
)

// row is a list with a head, as far as it is not yet passed.
type row struct {
	age  int // how many lists are newer
	rest []api.Entry
}

func (r row) head() api.Entry { return r.rest[0] }

// ahead tells whether the head of r is looked at ahead of that of other.
func (r row) ahead(other row) bool {
	return cmp.Or(strings.Compare(r.head().Key, other.head().Key), cmp.Compare(r.age, other.age)) < 0
}

// pass is what is left of r behind its head.
func (r row) pass() row { return row{r.age, r.rest[1:]} }

// heads are the rows that have one, as a heap of the library.
type heads struct {
	rows  []row
	ahead func(a, b row) bool
}

func headsOf(lists [][]api.Entry) *heads {
	h := &heads{ahead: row.ahead}
	for age, l := range lists {
		h.keep(row{age, l})
	}
	return h
}

// keep takes r in, if it has a head.
func (h *heads) keep(r row) {
	if len(r.rest) > 0 {
		heap.Push(h, r)
	}
}

// passLeast lets each row whose head has the least key pass that head, and is the newest of these heads.
func (h *heads) passLeast() api.Entry {
	newest := h.rows[0].head()
	var passes []func() row
	// All are found before one is passed: a row may have the key again behind its head, and passes one each.
	for h.Len() > 0 && h.rows[0].head().Key == newest.Key {
		passes = append(passes, heap.Pop(h).(row).pass)
	}
	for _, pass := range passes {
		h.keep(pass())
	}
	return newest
}

// Len, Less, Swap, Push and Pop are what the library's heap asks for.

func (h *heads) Len() int { return len(h.rows) }

func (h *heads) Less(i, j int) bool { return h.ahead(h.rows[i], h.rows[j]) }

func (h *heads) Swap(i, j int) { h.rows[i], h.rows[j] = h.rows[j], h.rows[i] }

func (h *heads) Push(x any) { h.rows = append(h.rows, x.(row)) }

func (h *heads) Pop() any {
	last := len(h.rows) - 1
	r := h.rows[last]
	h.rows = h.rows[:last]
	return r
}
