package move

import (
	"crypto/sha256"
	"encoding/binary"
	"slices"
	"sort"
	"strings"

	"marlstone/api"
)

// The moves as the chapter's words have them, by another road than the program's: the library's SHA-256 and uvarint, all pairs of tables held against each other, places by level, rows laid over each other from the oldest on, shares by their remainder, and lists that are sorted anew.

func rawNumber(v int) string { return string(binary.AppendUvarint(nil, uint64(v))) }

func rawText(s string) string { return rawNumber(len(s)) + s }

// rawLeaf is the bytes of an entry (3), as if it was right.
func rawLeaf(e api.Entry) string {
	if e.Del {
		return "\x01" + rawNumber(e.Seq) + rawText(e.Key)
	}
	return "\x00" + rawNumber(e.Seq) + rawText(e.Key) + rawText(e.Value)
}

// kept is the first so many bits of the library's sum.
func kept(b string, keep int) api.Digest {
	d := api.Digest(sha256.Sum256([]byte(b)))
	for bit := max(keep, 0); bit < 256; bit++ {
		d[bit/8] &^= 0x80 >> (bit % 8)
	}
	return d
}

// modelRoot is that of the leaves of row, which has some.
func modelRoot(keep int, row []api.Entry) api.Digest {
	if len(row) == 1 {
		return kept("\x00"+rawLeaf(row[0]), keep)
	}
	k := 1
	for 2*k < len(row) {
		k *= 2
	}
	l, r := modelRoot(keep, row[:k]), modelRoot(keep, row[k:])
	return kept("\x01"+string(l[:])+string(r[:]), keep)
}

// modelTable is what is known of the table of row, which has some entries, be they fit or not.
func modelTable(keep, level int, row []api.Entry) api.Table {
	return api.Table{Level: level, Count: len(row), Root: modelRoot(keep, row), First: row[0].Key, Last: row[len(row)-1].Key}
}

func isKey(s string) bool { return 0 < len(s) && len(s) < 129 }

// modelFit tells whether a table may be made of row.
func modelFit(row []api.Entry) bool {
	fit := 0 < len(row) && len(row) < 65
	for i, e := range row {
		fit = fit && isKey(e.Key) && len(e.Value) < 1025 && (e.Value == "" || !e.Del) && 0 < e.Seq && e.Seq <= 1<<40
		fit = fit && (i == 0 || row[i-1].Key < e.Key)
	}
	return fit
}

// modelRight tells whether l may be all tables of a store.
func modelRight(l []api.Table) bool {
	if len(l) > 512 {
		return false
	}
	for i, x := range l {
		if x.Level < 0 || x.Level > 3 || x.Count < 1 || x.Count > 64 || !isKey(x.First) || !isKey(x.Last) {
			return false
		}
		if c := strings.Compare(x.First, x.Last); x.Count == 1 && c != 0 || x.Count > 1 && c != -1 {
			return false
		}
		for _, y := range l[:i] {
			if y.Level > x.Level || y.Level == x.Level && x.Level > 0 && y.Last >= x.First {
				return false
			}
		}
	}
	return true
}

func modelFlush(keep int, l []api.Table, pending []api.Entry) ([]api.Table, api.Errno) {
	switch {
	case !modelRight(l) || !modelFit(pending):
		return nil, api.ErrArg
	case len(l) == 512:
		return nil, api.ErrLarge
	}
	return slices.Insert(slices.Clone(l), 0, modelTable(keep, 0, pending)), api.OK
}

// modelInputs is the places of what is merged next: all of the level 0, or the first table of another level, and what stands below it.
func modelInputs(l []api.Table) ([]int, int, bool) {
	if !modelRight(l) {
		return nil, 0, false
	}
	of := map[int][]int{}
	for i, x := range l {
		of[x.Level] = append(of[x.Level], i)
	}
	for from, bound := range []int{4, 8, 32} {
		upper := of[from]
		if len(upper) <= bound {
			continue
		}
		if from > 0 {
			upper = upper[:1]
		}
		var firsts, lasts []string
		for _, i := range upper {
			firsts, lasts = append(firsts, l[i].First), append(lasts, l[i].Last)
		}
		sort.Strings(firsts)
		sort.Strings(lasts)
		places := slices.Clone(upper)
		for _, i := range of[from+1] {
			if above, below := l[i].First > lasts[len(lasts)-1], l[i].Last < firsts[0]; !above && !below {
				places = append(places, i)
			}
		}
		sort.Ints(places)
		return places, from + 1, true
	}
	return nil, 0, false
}

// laid is the rows laid over each other, of which the first is the newest, by rising keys; Dels with them.
func laid(rows [][]api.Entry) []api.Entry {
	of := map[string]api.Entry{}
	for i := range rows {
		row := rows[len(rows)-1-i]
		for k := range row {
			e := row[len(row)-1-k]
			of[e.Key] = e
		}
	}
	var l []api.Entry
	for _, e := range of {
		l = append(l, e)
	}
	sort.Slice(l, func(i, j int) bool { return strings.Compare(l[i].Key, l[j].Key) == -1 })
	return l
}

// has is all that a store with these rows has: no Dels.
func has(rows [][]api.Entry) []api.Entry {
	return slices.DeleteFunc(laid(rows), func(e api.Entry) bool { return e.Del })
}

// modelParts is l in shares: each is of the whole part of its count by theirs, and as many of the first ones have one more as are left.
func modelParts(l []api.Entry) [][]api.Entry {
	n := len(l) / 64
	if n*64 < len(l) {
		n++
	}
	var parts [][]api.Entry
	for i := range n {
		size := len(l) / n
		from := i*size + min(i, len(l)%n)
		if i < len(l)%n {
			size++
		}
		parts = append(parts, l[from:from+size])
	}
	return parts
}

func modelCompact(keep int, l []api.Table, rows [][]api.Entry) ([]api.Table, [][]api.Entry, api.Errno) {
	if !modelRight(l) {
		return nil, nil, api.ErrArg
	}
	places, to, is := modelInputs(l)
	switch {
	case !is:
		return nil, nil, api.ErrNone
	case len(rows) != len(places):
		return nil, nil, api.ErrProof
	}
	next := slices.Clone(l)
	for k := len(rows) - 1; k >= 0; k-- {
		i := places[k]
		if !modelFit(rows[k]) || modelTable(keep, l[i].Level, rows[k]) != l[i] {
			return nil, nil, api.ErrProof
		}
		next = slices.Delete(next, i, i+1)
	}
	merged := laid(rows)
	if to == 3 {
		merged = has(rows)
	}
	parts := modelParts(merged)
	for _, part := range parts {
		next = append(next, modelTable(keep, to, part))
	}
	// Those of the level 0 have their order, and nothing comes to stand among them.
	sort.SliceStable(next, func(i, j int) bool {
		x, y := next[i], next[j]
		return x.Level < y.Level || x.Level == y.Level && x.Level > 0 && x.First < y.First
	})
	return next, parts, api.OK
}

// modelPlace gives each part a new list, in which it stands once; what is taken out is told by a map.
func modelPlace(l []api.Table, inputs []int, parts []api.Table) []api.Table {
	out := map[int]bool{}
	for _, i := range inputs {
		out[i] = true
	}
	var placed []api.Table
	for i := range l {
		if !out[i] {
			placed = append(placed, l[i])
		}
	}
	for _, part := range parts {
		var next []api.Table
		stands := false
		for _, x := range placed {
			ahead := x.Level < part.Level || x.Level == part.Level && strings.Compare(x.First, part.First) == -1
			if !ahead && !stands {
				next = append(next, part)
				stands = true
			}
			next = append(next, x)
		}
		if !stands {
			next = append(next, part)
		}
		placed = next
	}
	return placed
}

// modelScore adds up level by level.
func modelScore(l []api.Table) int {
	score := 0
	for level := range 3 {
		for _, x := range l {
			if x.Level <= level {
				score += x.Count
			}
		}
	}
	return score
}
