package seek

import (
	"crypto/sha256"
	"encoding/binary"
	"strings"

	"marlstone/api"
)

// Proofs as the chapter's words have them, by another road than the program's: the library's uvarint and SHA-256, trees that are walked from the root down, and lists that are gone through entry by entry.

func rawNumber(v uint64) string { return string(binary.AppendUvarint(nil, v)) }

func rawText(s string) string { return rawNumber(uint64(len(s))) + s }

// rawLeaf is the bytes of a right entry (3).
func rawLeaf(e api.Entry) string {
	if e.Del {
		return "\x01" + rawNumber(uint64(e.Seq)) + rawText(e.Key)
	}
	return "\x00" + rawNumber(uint64(e.Seq)) + rawText(e.Key) + rawText(e.Value)
}

func rawLeaves(l []api.Entry) [][]byte {
	var leaves [][]byte
	for _, e := range l {
		leaves = append(leaves, []byte(rawLeaf(e)))
	}
	return leaves
}

func modelRight(e api.Entry) bool {
	return len(e.Key) >= 1 && len(e.Key) <= 128 && len(e.Value) <= 1024 && !(e.Del && e.Value != "") && e.Seq >= 1 && e.Seq <= 1<<40
}

func modelFit(l []api.Entry) bool {
	for i, e := range l {
		if !modelRight(e) || i > 0 && strings.Compare(l[i-1].Key, e.Key) >= 0 {
			return false
		}
	}
	return len(l) >= 1 && len(l) <= 64
}

// modelEntry is the right entry whose bytes leaf is, with nothing behind.
func modelEntry(leaf []byte) (api.Entry, bool) {
	rest := string(leaf)
	take := func(n uint64) string {
		n = min(n, uint64(len(rest)))
		s := rest[:n]
		rest = rest[n:]
		return s
	}
	number := func() uint64 {
		v, n := binary.Uvarint([]byte(rest))
		take(uint64(max(n, 0)))
		return v
	}
	e := api.Entry{Del: take(1) == "\x01"}
	e.Seq = int(number())
	e.Key = take(number())
	if !e.Del {
		e.Value = take(number())
	}
	// What was read may be nothing like an entry: it is held against the whole of the leaf here.
	if !modelRight(e) || rawLeaf(e) != string(leaf) {
		return api.Entry{}, false
	}
	return e, true
}

// kept is the first so many bits of the library's sum.
func kept(b string, keep int) api.Digest {
	d := api.Digest(sha256.Sum256([]byte(b)))
	for bit := max(keep, 0); bit < 256; bit++ {
		d[bit/8] &^= 0x80 >> (bit % 8)
	}
	return d
}

func leafSum(keep int, leaf []byte) api.Digest { return kept("\x00"+string(leaf), keep) }

func nodeSum(keep int, l, r api.Digest) api.Digest {
	return kept("\x01"+string(l[:])+string(r[:]), keep)
}

// powerBelow is the greatest power of two below n, 2 or more.
func powerBelow(n uint64) uint64 {
	k := uint64(1)
	for n-k > k {
		k *= 2
	}
	return k
}

func modelRoot(keep int, leaves [][]byte) api.Digest {
	if len(leaves) == 1 {
		return leafSum(keep, leaves[0])
	}
	k := powerBelow(uint64(len(leaves)))
	return nodeSum(keep, modelRoot(keep, leaves[:k]), modelRoot(keep, leaves[k:]))
}

// modelPath is what stands beside the i-th leaf, upwards.
func modelPath(keep int, leaves [][]byte, i int) []api.Digest {
	if len(leaves) == 1 {
		return nil
	}
	k := int(powerBelow(uint64(len(leaves))))
	if i < k {
		return append(modelPath(keep, leaves[:k], i), modelRoot(keep, leaves[k:]))
	}
	return append(modelPath(keep, leaves[k:], i-k), modelRoot(keep, leaves[:k]))
}

// modelUp is the root that d comes to at the i-th place of count, and whether path has just the digests for it.
func modelUp(keep int, count, i uint64, d api.Digest, path []api.Digest) (api.Digest, bool) {
	if count == 1 || len(path) == 0 {
		return d, count == 1 && len(path) == 0
	}
	k, top, rest := powerBelow(count), path[len(path)-1], path[:len(path)-1]
	if i < k {
		l, ok := modelUp(keep, k, i, d, rest)
		return nodeSum(keep, l, top), ok
	}
	r, ok := modelUp(keep, count-k, i-k, d, rest)
	return nodeSum(keep, top, r), ok
}

// modelBeside is the roots of the greatest parts without one of the leaves from from to to - 1.
func modelBeside(keep int, leaves [][]byte, from, to int) []api.Digest {
	if to <= 0 || from >= len(leaves) {
		return []api.Digest{modelRoot(keep, leaves)}
	}
	if len(leaves) == 1 {
		return nil
	}
	k := int(powerBelow(uint64(len(leaves))))
	if from <= 0 && to >= len(leaves) {
		return nil
	}
	return append(modelBeside(keep, leaves[:k], from, to), modelBeside(keep, leaves[k:], from-k, to-k)...)
}

// across is a span that is laid into a tree.
type across struct {
	keep     int
	from, to uint64
	span     api.Span
	used     int // digests of the path
}

// root is that of the leaves from lo to hi - 1; digests that there are not are zero, and used counts them all the same.
func (a *across) root(lo, hi uint64) api.Digest {
	if hi <= a.from || lo >= a.to {
		a.used++
		if a.used > len(a.span.Path) {
			return api.Digest{}
		}
		return a.span.Path[a.used-1]
	}
	if hi-lo == 1 {
		return leafSum(a.keep, a.span.Leaves[lo-a.from])
	}
	k := powerBelow(hi - lo)
	l := a.root(lo, lo+k)
	return nodeSum(a.keep, l, a.root(lo+k, hi))
}

func modelCovers(x api.Table, key string) bool {
	return strings.Compare(key, x.First) != -1 && strings.Compare(key, x.Last) != 1
}

func modelOverlaps(x api.Table, lo, hi string) bool {
	if hi == "" {
		return strings.Compare(x.Last, lo) != -1
	}
	return strings.Compare(hi, lo) == 1 && strings.Compare(x.Last, lo) != -1 && strings.Compare(x.First, hi) == -1
}

// modelTable is what is known of the table of l.
func modelTable(keep int, l []api.Entry) api.Table {
	return api.Table{Level: 1, Count: len(l), Root: modelRoot(keep, rawLeaves(l)), First: l[0].Key, Last: l[len(l)-1].Key}
}

func modelOpening(keep int, l []api.Entry, at int) api.Opening {
	return api.Opening{At: at, Leaf: []byte(rawLeaf(l[at])), Path: modelPath(keep, rawLeaves(l), at)}
}

func modelProve(keep int, l []api.Entry, key string) (api.Point, api.Errno) {
	if !modelFit(l) {
		return api.Point{}, api.ErrArg
	}
	for i, e := range l {
		if e.Key == key {
			return api.Point{A: modelOpening(keep, l, i)}, api.OK
		}
		if i > 0 && l[i-1].Key < key && key < e.Key {
			return api.Point{Between: true, A: modelOpening(keep, l, i-1), B: modelOpening(keep, l, i)}, api.OK
		}
	}
	return api.Point{}, api.ErrNone
}

func modelHolds(keep int, x api.Table, o api.Opening) (api.Entry, bool) {
	if o.At < 0 || o.At >= x.Count {
		return api.Entry{}, false
	}
	d, ok := modelUp(keep, uint64(x.Count), uint64(o.At), leafSum(keep, o.Leaf), o.Path)
	if !ok || d != x.Root {
		return api.Entry{}, false
	}
	return modelEntry(o.Leaf)
}

func modelCheck(keep int, x api.Table, key string, p api.Point) (api.Entry, bool, api.Errno) {
	a, holds := modelHolds(keep, x, p.A)
	if !holds || !modelCovers(x, key) {
		return api.Entry{}, false, api.ErrProof
	}
	if !p.Between {
		if p.B.At != 0 || len(p.B.Leaf)+len(p.B.Path) != 0 || a.Key != key {
			return api.Entry{}, false, api.ErrProof
		}
		return a, true, api.OK
	}
	b, holds := modelHolds(keep, x, p.B)
	if !holds || p.B.At-p.A.At != 1 || !(a.Key < key && key < b.Key) {
		return api.Entry{}, false, api.ErrProof
	}
	return api.Entry{}, false, api.OK
}

// asks tells whether key is one of those from lo on and below hi.
func asks(lo, hi, key string) bool { return key >= lo && (hi == "" || key < hi) }

// modelFound is the entries of l of the keys from lo on and below hi.
func modelFound(l []api.Entry, lo, hi string) []api.Entry {
	var found []api.Entry
	for _, e := range l {
		if asks(lo, hi, e.Key) {
			found = append(found, e)
		}
	}
	return found
}

func modelProveSpan(keep int, l []api.Entry, lo, hi string) (api.Span, api.Errno) {
	if !modelFit(l) {
		return api.Span{}, api.ErrArg
	}
	if !modelOverlaps(modelTable(keep, l), lo, hi) {
		return api.Span{}, api.ErrNone
	}
	leaves := rawLeaves(l)
	first, last := -1, -1
	for i, e := range l {
		// One that is asked for, the last one ahead of all these, or the first one behind.
		ahead := e.Key < lo && (i+1 == len(l) || l[i+1].Key >= lo)
		behind := hi != "" && e.Key >= hi && (i == 0 || l[i-1].Key < hi)
		if asks(lo, hi, e.Key) || ahead || behind {
			last = i
			if first < 0 {
				first = i
			}
		}
	}
	return api.Span{From: first, Leaves: leaves[first : last+1], Path: modelBeside(keep, leaves, first, last+1)}, api.OK
}

func modelCheckSpan(keep int, x api.Table, lo, hi string, s api.Span) ([]api.Entry, api.Errno) {
	if !modelOverlaps(x, lo, hi) || len(s.Leaves) == 0 || len(s.Leaves) > x.Count || s.From < 0 || s.From > x.Count {
		return nil, api.ErrProof
	}
	from, count := uint64(s.From), uint64(x.Count)
	to := from + uint64(len(s.Leaves))
	if to > count {
		return nil, api.ErrProof
	}
	a := across{keep: keep, from: from, to: to, span: s}
	if a.root(0, count) != x.Root || a.used != len(s.Path) {
		return nil, api.ErrProof
	}
	var l []api.Entry
	for i, leaf := range s.Leaves {
		e, ok := modelEntry(leaf)
		if !ok || i > 0 && e.Key <= l[i-1].Key {
			return nil, api.ErrProof
		}
		l = append(l, e)
	}
	if from != 0 && l[0].Key >= lo {
		return nil, api.ErrProof
	}
	if end := l[len(l)-1].Key; to < count && (hi == "" || end < hi) {
		return nil, api.ErrProof
	}
	return modelFound(l, lo, hi), api.OK
}
