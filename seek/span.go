package seek

import (
	"marlstone/api"
	"marlstone/entry"
	"marlstone/table"
	"marlstone/tree"
)

// ProveSpan is a span that shows what the table of l has of the keys from lo on and below hi (L3).
func ProveSpan(t tree.Tree, l []api.Entry, lo, hi string) (api.Span, api.Errno) {
	if !table.Fit(l) {
		return api.Span{}, api.ErrArg
	}
	if !Overlaps(ends(l), lo, hi) {
		return api.Span{}, api.ErrNone
	}
	leaves := table.Leaves(l)
	from, to := places(l, lo, hi)
	path, _ := t.Range(leaves, from, to) // of keys that are covered there is a place, and so no error
	return api.Span{From: from, Leaves: leaves[from:to:to], Path: path}, api.OK
}

// places are those of the entries from lo on and below hi, of the one ahead and of the one behind: from from on, up to the one ahead of to.
func places(l []api.Entry, lo, hi string) (from, to int) {
	from, _ = entry.Find(l, lo)
	to = len(l)
	if hi != "" {
		to, _ = entry.Find(l, hi)
	}
	return max(from-1, 0), min(to+1, len(l))
}

// CheckSpan is the entries of the table x from lo on and below hi, if s shows that they are all (L3).
func CheckSpan(t tree.Tree, x api.Table, lo, hi string, s api.Span) ([]api.Entry, api.Errno) {
	// CheckRange asks for a leaf, and that all of them have a place below Count, too.
	if !Overlaps(x, lo, hi) || !t.CheckRange(x.Root, x.Count, s.From, s.Leaves, s.Path) {
		return nil, api.ErrProof
	}
	l, ok := soleEntries(s.Leaves)
	if !ok || !entry.Sorted(l) {
		return nil, api.ErrProof
	}
	more := s.From+len(l) < x.Count
	if s.From > 0 && l[0].Key >= lo || more && below(l[len(l)-1].Key, hi) {
		return nil, api.ErrProof
	}
	return within(l, lo, hi), api.OK
}

// soleEntries is the entry of each leaf, and whether each is that of just one.
func soleEntries(leaves [][]byte) ([]api.Entry, bool) {
	var l []api.Entry
	for _, leaf := range leaves {
		e, ok := soleEntry(leaf)
		if !ok {
			return nil, false
		}
		l = append(l, e)
	}
	return l, true
}

// within is those of l from lo on and below hi.
func within(l []api.Entry, lo, hi string) []api.Entry {
	var some []api.Entry
	for _, e := range l {
		if lo <= e.Key && below(e.Key, hi) {
			some = append(some, e)
		}
	}
	return some
}
