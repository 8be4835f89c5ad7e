package proof

import (
	"marlstone/api"
	"marlstone/seek"
	"marlstone/summary"
	"marlstone/tree"
)

// ProveSweep shows what a store has of the keys from lo on and below hi (Q3).
func ProveSweep(t tree.Tree, l []api.Table, rows [][]api.Entry, lo, hi string) (api.Sweep, api.Errno) {
	if !fit(t, l, rows) {
		return api.Sweep{}, api.ErrArg
	}
	b, _ := summary.Bytes(l) // of a right list there is no error
	s := api.Sweep{Summary: b}
	for _, i := range summary.Overlapping(l, lo, hi) {
		span, _ := seek.ProveSpan(t, rows[i], lo, hi) // nor of a fit row's keys that are covered
		s.Spans = append(s.Spans, span)
	}
	return s, api.OK
}

// CheckSweep is what the store whose digest is d has of the keys from lo on and below hi, if s shows it (Q3).
func CheckSweep(t tree.Tree, d api.Digest, lo, hi string, s api.Sweep) ([]api.Entry, api.Errno) {
	l, err := known(t, d, s.Summary)
	if err != api.OK {
		return nil, err
	}
	asked := summary.Overlapping(l, lo, hi)
	if len(s.Spans) != len(asked) {
		return nil, api.ErrProof
	}
	var rows [][]api.Entry
	for k, i := range asked {
		row, err := seek.CheckSpan(t, l[i], lo, hi, s.Spans[k])
		if err != api.OK {
			return nil, api.ErrProof
		}
		rows = append(rows, row)
	}
	return Whole(rows), api.OK
}
