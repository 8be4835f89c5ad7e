package proof

import (
	"crypto/sha256"
	"encoding/binary"
	"sort"
	"strings"

	"marlstone/api"
	"marlstone/seek"
	"marlstone/summary"
	"marlstone/table"
	"marlstone/tree"
)

// Proofs as the chapter's words have them, by another road than the program's: the library's SHA-256 and uvarint, rows that are laid over each other from the oldest on, all tables asked one by one, and points that are all checked ahead of being counted. (What one table shows of a key is asked of package seek.)

func rawNumber(v int) string { return string(binary.AppendUvarint(nil, uint64(v))) }

func rawText(s string) string { return rawNumber(len(s)) + s }

// rawLeaf is the bytes of a right entry (3).
func rawLeaf(e api.Entry) string {
	if e.Del {
		return "\x01" + rawNumber(e.Seq) + rawText(e.Key)
	}
	return "\x00" + rawNumber(e.Seq) + rawText(e.Key) + rawText(e.Value)
}

// rawSummary is the bytes of l, be it right or not.
func rawSummary(l []api.Table) string {
	b := rawNumber(len(l))
	for _, x := range l {
		b += rawNumber(x.Level) + rawNumber(x.Count) + string(x.Root[:]) + rawText(x.First) + rawText(x.Last)
	}
	return b
}

// kept is the first so many bits of the library's sum.
func kept(b string, keep int) api.Digest {
	d := api.Digest(sha256.Sum256([]byte(b)))
	for bit := max(keep, 0); bit < 256; bit++ {
		d[bit/8] &^= 0x80 >> (bit % 8)
	}
	return d
}

// modelDigest is that of l, be it right or not.
func modelDigest(keep int, l []api.Table) api.Digest { return kept("\x03"+rawSummary(l), keep) }

// modelRoot is that of the leaves of row, which has some.
func modelRoot(keep int, row []api.Entry) api.Digest {
	if len(row) == 1 {
		return kept("\x00"+rawLeaf(row[0]), keep)
	}
	k := 1
	for 2*k < len(row) {
		k *= 2
	}
	l, r := modelRoot(keep, row[:k]), modelRoot(keep, row[k:])
	return kept("\x01"+string(l[:])+string(r[:]), keep)
}

// modelTable is what is known of the table of row, which has some entries.
func modelTable(keep, level int, row []api.Entry) api.Table {
	return api.Table{Level: level, Count: len(row), Root: modelRoot(keep, row), First: row[0].Key, Last: row[len(row)-1].Key}
}

// modelFits tells whether l and rows are a store's.
func modelFits(keep int, l []api.Table, rows [][]api.Entry) bool {
	fits := summary.Right(l) && len(l) == len(rows)
	for i := 0; fits && i < len(l); i++ {
		fits = table.Fit(rows[i]) && l[i] == modelTable(keep, l[i].Level, rows[i])
	}
	return fits
}

// modelWhole lays the rows over each other, the oldest first, and of one row the last entry first: so the first entry of the first row is what stays.
func modelWhole(rows [][]api.Entry) []api.Entry {
	of := map[string]api.Entry{}
	for i := range rows {
		row := rows[len(rows)-1-i]
		for k := range row {
			e := row[len(row)-1-k]
			of[e.Key] = e
		}
	}
	var l []api.Entry
	for _, e := range of {
		if !e.Del {
			l = append(l, e)
		}
	}
	sort.Slice(l, func(i, j int) bool { return strings.Compare(l[i].Key, l[j].Key) == -1 })
	return l
}

// asks tells whether key is one of those from lo on and below hi.
func asks(lo, hi, key string) bool { return key >= lo && (hi == "" || key < hi) }

// modelWithin is those of l of the keys from lo on and below hi.
func modelWithin(l []api.Entry, lo, hi string) []api.Entry {
	var some []api.Entry
	for _, e := range l {
		if asks(lo, hi, e.Key) {
			some = append(some, e)
		}
	}
	return some
}

// modelHas is what a store with these rows has of key.
func modelHas(rows [][]api.Entry, key string) (api.Entry, bool) {
	for _, e := range modelWhole(rows) {
		if e.Key == key {
			return e, true
		}
	}
	return api.Entry{}, false
}

// modelProve asks each table: one that does not cover the key has no point.
func modelProve(w tree.Tree, l []api.Table, rows [][]api.Entry, key string) (api.Proof, api.Errno) {
	if !modelFits(w.Bits, l, rows) {
		return api.Proof{}, api.ErrArg
	}
	p := api.Proof{Summary: []byte(rawSummary(l))}
	between := true
	for _, row := range rows {
		if point, err := seek.Prove(w, row, key); err == api.OK && between {
			p.Points = append(p.Points, point)
			between = point.Between
		}
	}
	return p, api.OK
}

// modelProveSweep asks each table: one that does not overlap the keys has no span.
func modelProveSweep(w tree.Tree, l []api.Table, rows [][]api.Entry, lo, hi string) (api.Sweep, api.Errno) {
	if !modelFits(w.Bits, l, rows) {
		return api.Sweep{}, api.ErrArg
	}
	s := api.Sweep{Summary: []byte(rawSummary(l))}
	for _, row := range rows {
		if span, err := seek.ProveSpan(w, row, lo, hi); err == api.OK {
			s.Spans = append(s.Spans, span)
		}
	}
	return s, api.OK
}

// modelKnown is the tables whose summary b is, if their digest is d.
func modelKnown(keep int, d api.Digest, b []byte) ([]api.Table, api.Errno) {
	l, err := summary.Parse(b)
	switch {
	case err != api.OK:
		return nil, api.ErrForm
	case modelDigest(keep, l) != d:
		return nil, api.ErrDigest
	}
	return l, api.OK
}

// modelCheck checks all points, and then counts them.
func modelCheck(w tree.Tree, d api.Digest, key string, p api.Proof) (api.Entry, bool, api.Errno) {
	all, err := modelKnown(w.Bits, d, p.Summary)
	if err != api.OK {
		return api.Entry{}, false, err
	}
	var l []api.Table
	for _, x := range all {
		if x.First <= key && key <= x.Last {
			l = append(l, x)
		}
	}
	if len(p.Points) > len(l) {
		return api.Entry{}, false, api.ErrProof
	}
	var told []api.Entry
	for k, point := range p.Points {
		e, is, err := seek.Check(w, l[k], key, point)
		switch {
		case err != api.OK, len(told) > 0:
			return api.Entry{}, false, api.ErrProof
		case is:
			told = append(told, e)
		}
	}
	switch {
	case len(told) == 0 && len(p.Points) < len(l):
		return api.Entry{}, false, api.ErrProof
	case len(told) == 0 || told[0].Del:
		return api.Entry{}, false, api.OK
	}
	return told[0], true, api.OK
}

// modelCheckSweep goes from the oldest table to the newest.
func modelCheckSweep(w tree.Tree, d api.Digest, lo, hi string, s api.Sweep) ([]api.Entry, api.Errno) {
	l, err := modelKnown(w.Bits, d, s.Summary)
	if err != api.OK {
		return nil, err
	}
	left := s.Spans
	rows := make([][]api.Entry, len(l))
	for i := len(l) - 1; i >= 0; i-- {
		x := l[i]
		if x.Last < lo || hi != "" && (hi <= lo || x.First >= hi) {
			continue
		}
		if len(left) == 0 {
			return nil, api.ErrProof
		}
		last := len(left) - 1
		if rows[i], err = seek.CheckSpan(w, x, lo, hi, left[last]); err != api.OK {
			return nil, api.ErrProof
		}
		left = left[:last]
	}
	if len(left) > 0 {
		return nil, api.ErrProof
	}
	return modelWhole(rows), api.OK
}
