package tree

import (
	"crypto/sha256"

	"marlstone/api"
)

// What the chapter's words ask for, reckoned by the library's SHA-256 and by other roads than the program's.

// kept is the first so many bits of the library's sum.
func kept(b []byte, keep int) api.Digest {
	d := api.Digest(sha256.Sum256(b))
	if keep >= 256 {
		return d
	}
	for bit := max(keep, 0); bit < 256; bit++ {
		d[bit/8] &^= 0x80 >> (bit % 8)
	}
	return d
}

func wantLeaf(keep int, b []byte) api.Digest { return kept([]byte("\x00"+string(b)), keep) }

func wantNode(keep int, l, r api.Digest) api.Digest {
	return kept([]byte("\x01"+string(l[:])+string(r[:])), keep)
}

// wantRoot goes from the leaves upwards: neighbours are put together by twos, and one that is left over goes up as it is, which makes the same tree.
func wantRoot(keep int, leaves [][]byte) api.Digest {
	if len(leaves) == 0 {
		return kept(nil, keep)
	}
	var row []api.Digest
	for _, b := range leaves {
		row = append(row, wantLeaf(keep, b))
	}
	for len(row) > 1 {
		var above []api.Digest
		for i := 0; i+1 < len(row); i += 2 {
			above = append(above, wantNode(keep, row[i], row[i+1]))
		}
		if len(row)%2 == 1 {
			above = append(above, row[len(row)-1])
		}
		row = above
	}
	return row[0]
}

// powerBelow is the greatest power of two below n, 2 or more.
func powerBelow(n uint64) uint64 {
	k := uint64(1)
	for n-k > k {
		k *= 2
	}
	return k
}

// part is the leaves from lo to hi - 1 of a tree.
type part struct{ lo, hi uint64 }

// below are the two parts under the node above p.
func (p part) below() (part, part) {
	m := p.lo + powerBelow(p.hi-p.lo)
	return part{p.lo, m}, part{m, p.hi}
}

// wantBeside are the parts beside the i-th of count leaves, upwards, and whether each stands at the right.
func wantBeside(p part, i uint64) (beside []part, right []bool) {
	if p.hi-p.lo == 1 {
		return nil, nil
	}
	l, r := p.below()
	if i < l.hi {
		beside, right = wantBeside(l, i)
		return append(beside, r), append(right, true)
	}
	beside, right = wantBeside(r, i)
	return append(beside, l), append(right, false)
}

// wantPath is Path of a place that there is.
func wantPath(keep int, leaves [][]byte, i int) []api.Digest {
	var path []api.Digest
	beside, _ := wantBeside(part{0, uint64(len(leaves))}, uint64(i))
	for _, p := range beside {
		path = append(path, wantRoot(keep, leaves[p.lo:p.hi]))
	}
	return path
}

// wantCheck is Check, of any numbers.
func wantCheck(keep int, root api.Digest, count, i int, leaf []byte, path []api.Digest) bool {
	if count <= 0 || i < 0 || i > count-1 {
		return false
	}
	_, right := wantBeside(part{0, uint64(count)}, uint64(i))
	if len(path) != len(right) {
		return false
	}
	up := wantLeaf(keep, leaf)
	for k, d := range path {
		if right[k] {
			up = wantNode(keep, up, d)
		} else {
			up = wantNode(keep, d, up)
		}
	}
	return up == root
}

// greatest are the greatest parts without a leaf from from to to - 1: beside the lowest node that has all of these, and below it at both ends, told from the left to the right.
func greatest(count, from, to uint64) []part {
	var left, right []part
	p := part{0, count}
	for p.hi-p.lo > 1 {
		l, r := p.below()
		switch {
		case to <= l.hi:
			right = append(right, r)
			p = l
		case from >= r.lo:
			left = append(left, l)
			p = r
		default:
			// The range goes over the middle: its two ends have nothing to do with each other from here on.
			for q := l; q.lo < from; {
				a, b := q.below()
				if from >= b.lo {
					left = append(left, a)
					q = b
				} else {
					q = a
				}
			}
			for q := r; q.hi > to; {
				a, b := q.below()
				if to <= a.hi {
					right = append(right, b)
					q = a
				} else {
					q = b
				}
			}
			p = part{}
		}
	}
	for i := len(right) - 1; i >= 0; i-- {
		left = append(left, right[i])
	}
	return left
}

// wantRange is Range of places that there are.
func wantRange(keep int, leaves [][]byte, from, to int) []api.Digest {
	var path []api.Digest
	for _, p := range greatest(uint64(len(leaves)), uint64(from), uint64(to)) {
		path = append(path, wantRoot(keep, leaves[p.lo:p.hi]))
	}
	return path
}

// wantCheckRange is CheckRange, of any numbers: all parts that are known are laid side by side, and each two of them that make a node become one.
func wantCheckRange(keep int, root api.Digest, count, from int, leaves [][]byte, path []api.Digest) bool {
	if len(leaves) == 0 || from < 0 || count < 0 || uint64(from)+uint64(len(leaves)) > uint64(count) {
		return false
	}
	lo, hi := uint64(from), uint64(from)+uint64(len(leaves))
	beside := greatest(uint64(count), lo, hi)
	if len(beside) != len(path) {
		return false
	}
	sums := map[part]api.Digest{}
	for k, p := range beside {
		sums[p] = path[k]
	}
	for k, b := range leaves {
		sums[part{lo + uint64(k), lo + uint64(k) + 1}] = wantLeaf(keep, b)
	}
	return sumOf(keep, part{0, uint64(count)}, sums) == root
}

func sumOf(keep int, p part, sums map[part]api.Digest) api.Digest {
	if d, ok := sums[p]; ok {
		return d
	}
	l, r := p.below()
	return wantNode(keep, sumOf(keep, l, sums), sumOf(keep, r, sums))
}

// halvings is how often n, rounded up, is halved till it is 1.
func halvings(n int) int {
	times := 0
	for ; n > 1; n = (n + 1) / 2 {
		times++
	}
	return times
}
