package tree

import "marlstone/api"

const allBits = 256

// functions are a tree's, without the tree.
type functions struct {
	leaf       func(b []byte) api.Digest
	node       func(l, r api.Digest) api.Digest
	root       func(leaves [][]byte) api.Digest
	path       func(leaves [][]byte, i int) ([]api.Digest, api.Errno)
	check      func(root api.Digest, count, i int, leaf []byte, path []api.Digest) bool
	rangeOf    func(leaves [][]byte, from, to int) ([]api.Digest, api.Errno)
	checkRange func(root api.Digest, count, from int, part [][]byte, path []api.Digest) bool
}

// whole are those of the one tree that keeps all of its sums.
func whole() functions {
	t := Tree{Bits: allBits}
	return functions{
		leaf:       t.Leaf,
		node:       t.Node,
		root:       t.Root,
		path:       t.Path,
		check:      t.Check,
		rangeOf:    t.Range,
		checkRange: t.CheckRange,
	}
}

// Leaf is that of the tree with 256 bits (E4).
func Leaf(b []byte) api.Digest { return whole().leaf(b) }

// Node is that of the tree with 256 bits (E4).
func Node(l, r api.Digest) api.Digest { return whole().node(l, r) }

// Root is that of the tree with 256 bits (E4).
func Root(leaves [][]byte) api.Digest { return whole().root(leaves) }

// Path is that of the tree with 256 bits (E4).
func Path(leaves [][]byte, i int) ([]api.Digest, api.Errno) { return whole().path(leaves, i) }

// Check is that of the tree with 256 bits (E4).
func Check(root api.Digest, count, i int, leaf []byte, path []api.Digest) bool {
	return whole().check(root, count, i, leaf, path)
}

// Range is that of the tree with 256 bits (E4).
func Range(leaves [][]byte, from, to int) ([]api.Digest, api.Errno) {
	return whole().rangeOf(leaves, from, to)
}

// CheckRange is that of the tree with 256 bits (E4).
func CheckRange(root api.Digest, count, from int, part [][]byte, path []api.Digest) bool {
	return whole().checkRange(root, count, from, part, path)
}
