package clash

import (
	"bytes"
	"math/bits"

	"marlstone/api"
	"marlstone/tree"
)

// The first byte of a text, as tree has it.
const (
	leafMark = 0
	nodeMark = 1
)

// known is what is known of a leaf or node: its sum, and the text that this is of; no text, where the sum alone is told.
type known struct {
	text []byte
	sum  api.Digest
}

// leafOf is what is known of the leaf b.
func leafOf(t tree.Tree, b []byte) known {
	return known{append([]byte{leafMark}, b...), t.Leaf(b)}
}

// nodeAbove is what is known of the node above l and r.
func nodeAbove(t tree.Tree, l, r known) known {
	text := append([]byte{nodeMark}, l.sum[:]...)
	return known{append(text, r.sum[:]...), t.Node(l.sum, r.sum)}
}

// pair is a leaf or node of two trees of one shape: as it is opened, and as it really is.
type pair struct {
	opened, real known
	left, right  *pair // none below a leaf, and below what only its sum is told of
}

// opening is some leaves of a tree from a place on, and the digests beside them, that are held against the real leaves.
type opening struct {
	tree tree.Tree
	real [][]byte
	from int
	part [][]byte
	path []api.Digest // those that are not in their place yet
}

// pairOf is that of the leaves from from to to - 1, whose digests of the path come next.
func (o *opening) pairOf(from, to int) *pair {
	if to <= o.from || from >= o.from+len(o.part) {
		return o.beside(from, to)
	}
	if to-from == 1 {
		return &pair{opened: leafOf(o.tree, o.part[from-o.from]), real: leafOf(o.tree, o.real[from])}
	}
	middle := from + leftCount(to-from)
	// The left one is asked first, for it takes its digests off the path.
	l := o.pairOf(from, middle)
	r := o.pairOf(middle, to)
	return &pair{
		opened: nodeAbove(o.tree, l.opened, r.opened),
		real:   nodeAbove(o.tree, l.real, r.real),
		left:   l,
		right:  r,
	}
}

// beside is the pair of the leaves from from to to - 1, none of which is opened.
func (o *opening) beside(from, to int) *pair {
	told := o.path[0]
	o.path = o.path[1:]
	return &pair{opened: known{sum: told}, real: known{sum: o.tree.Root(o.real[from:to])}}
}

// leftCount is how many of n leaves, 2 or more, are in the left part: the greatest power of two below n.
func leftCount(n int) int { return 1 << (bits.Len(uint(n-1)) - 1) }

// each shows the texts of p and of all below it: each one ahead of those below it, the left part's ahead of the right part's.
func (p *pair) each(show func(opened, real []byte)) {
	if p == nil {
		return
	}
	show(p.opened.text, p.real.text)
	p.left.each(show)
	p.right.each(show)
}

// found is what ends a search: two texts that are not the same.
type found struct{ opened, real []byte }

// firstUnlike is the first two texts from p down that are not the same.
func firstUnlike(p *pair) (opened, real []byte, ok bool) {
	defer func() {
		switch x := recover().(type) {
		case nil:
		case found:
			opened, real, ok = x.opened, x.real, true
		default:
			// A fault of the program is no clash, nor that there is none.
			panic(x)
		}
	}()
	p.each(func(a, b []byte) {
		if !bytes.Equal(a, b) {
			panic(found{a, b})
		}
	})
	return nil, nil, false
}
