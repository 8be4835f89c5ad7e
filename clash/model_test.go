package clash

import (
	"bytes"
	"crypto/sha256"
	"slices"

	"marlstone/api"
)

// What the chapter's words ask for, reckoned by the library's SHA-256 and by other roads than the program's: of each part of a tree the text and the sum are laid into a map, and all parts are put in their order by sorting them.

// kept is the first so many bits of the library's sum.
func kept(b []byte, keep int) api.Digest {
	d := api.Digest(sha256.Sum256(b))
	if keep >= 256 {
		return d
	}
	for bit := max(keep, 0); bit < 256; bit++ {
		d[bit/8] &^= 0x80 >> (bit % 8)
	}
	return d
}

func leafText(b []byte) []byte { return []byte("\x00" + string(b)) }

func nodeText(l, r api.Digest) []byte { return []byte("\x01" + string(l[:]) + string(r[:])) }

// span is the leaves from lo to hi - 1 of a tree.
type span struct{ lo, hi int }

func (s span) size() int { return s.hi - s.lo }

// below are the two parts under the node above s.
func (s span) below() (span, span) {
	k := 1
	for 2*k < s.size() {
		k *= 2
	}
	return span{s.lo, s.lo + k}, span{s.lo + k, s.hi}
}

// meets tells whether s has a leaf of other.
func (s span) meets(other span) bool { return s.lo < other.hi && other.lo < s.hi }

// partsOf are all parts of s that stand under some node, and s: each one ahead of those below it, the left part's ahead of the right part's.
func partsOf(s span) []span {
	if s.size() < 1 {
		return nil
	}
	all := []span{s}
	for k := 0; k < len(all); k++ {
		if all[k].size() > 1 {
			l, r := all[k].below()
			all = append(all, r, l)
		}
	}
	slices.SortFunc(all, func(a, b span) int {
		if a.lo != b.lo {
			return a.lo - b.lo
		}
		return b.hi - a.hi
	})
	return all
}

// laid is a tree by its parts; a part of which no text is there has its sum alone.
type laid struct {
	texts map[span][]byte
	sums  map[span]api.Digest
}

// lay is the tree of count leaves, of which those of place are leaves; besides are the sums of the other parts that are needed.
func lay(keep, count int, place span, leaves [][]byte, besides map[span]api.Digest) laid {
	t := laid{map[span][]byte{}, map[span]api.Digest{}}
	for s, d := range besides {
		t.sums[s] = d
	}
	// From the back, so that those below a part are there when it is its turn.
	for _, s := range slices.Backward(partsOf(span{0, count})) {
		if !s.meets(place) {
			continue
		}
		if s.size() == 1 {
			t.texts[s] = leafText(leaves[s.lo-place.lo])
		} else {
			l, r := s.below()
			t.texts[s] = nodeText(t.sums[l], t.sums[r])
		}
		t.sums[s] = kept(t.texts[s], keep)
	}
	return t
}

// layAll is the tree of all leaves.
func layAll(keep int, leaves [][]byte) laid {
	return lay(keep, len(leaves), span{0, len(leaves)}, leaves, nil)
}

// outside are the greatest parts of count leaves without one of place, from the left to the right: those that are below no other such part.
func outside(count int, place span) []span {
	var all []span
	for _, s := range partsOf(span{0, count}) {
		if !s.meets(place) && (len(all) == 0 || !s.meets(all[len(all)-1])) {
			all = append(all, s)
		}
	}
	return all
}

// upwards are the parts beside the i-th of count leaves, from the leaf upwards: the less of a size the nearer.
func upwards(count, i int) []span {
	var all []span
	for _, s := range partsOf(span{0, count}) {
		if s.size() > 1 && s.lo <= i && i < s.hi {
			l, r := s.below()
			if i < l.hi {
				all = append(all, r)
			} else {
				all = append(all, l)
			}
		}
	}
	slices.Reverse(all)
	return all
}

// want is what the chapter asks of an opening whose digests stand at besides.
func want(keep int, real [][]byte, place span, leaves [][]byte, besides []span, path []api.Digest) ([]byte, []byte, bool) {
	if len(path) != len(besides) {
		return nil, nil, false
	}
	at := map[span]api.Digest{}
	for k, s := range besides {
		at[s] = path[k]
	}
	truth, opened := layAll(keep, real), lay(keep, len(real), place, leaves, at)
	all := span{0, len(real)}
	if opened.sums[all] != truth.sums[all] {
		return nil, nil, false
	}
	for _, s := range partsOf(all) {
		if s.meets(place) && !bytes.Equal(opened.texts[s], truth.texts[s]) {
			return opened.texts[s], truth.texts[s], true
		}
	}
	return nil, nil, false
}

// wantOf is Of, of any numbers.
func wantOf(keep int, real [][]byte, i int, leaf []byte, path []api.Digest) ([]byte, []byte, bool) {
	if i < 0 || i >= len(real) {
		return nil, nil, false
	}
	return want(keep, real, span{i, i + 1}, [][]byte{leaf}, upwards(len(real), i), path)
}

// wantOfRange is OfRange, of any numbers.
func wantOfRange(keep int, real [][]byte, from int, part [][]byte, path []api.Digest) ([]byte, []byte, bool) {
	if len(part) == 0 || len(part) > len(real) || from < 0 || from > len(real)-len(part) {
		return nil, nil, false
	}
	place := span{from, from + len(part)}
	return want(keep, real, place, part, outside(len(real), place), path)
}

// wantOfLists is OfLists.
func wantOfLists(keep int, real, other [][]byte) ([]byte, []byte, bool) {
	if len(real) != len(other) || len(real) == 0 {
		return nil, nil, false
	}
	return want(keep, real, span{0, len(real)}, other, nil, nil)
}
