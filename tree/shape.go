package tree

import (
	"math/bits"
	"slices"

	"marlstone/api"
)

// span is leaves that stand side by side: from the one at from to the one ahead of to.
type span struct{ from, to int }

// of is the leaves of s.
func (s span) of(leaves [][]byte) [][]byte { return leaves[s.from:s.to] }

// halves are the two parts under the node above s, which has two leaves or more.
func (s span) halves() (left, right span) {
	// One is taken off, for the power of two is below the number of leaves, not the same.
	last := uint(s.to - s.from - 1)
	middle := s.from + 1<<(bits.Len(last)-1)
	return span{s.from, middle}, span{middle, s.to}
}

// apart tells whether s has none of the leaves of other.
func (s span) apart(other span) bool { return s.to <= other.from || s.from >= other.to }

// within tells whether s has leaves of other alone.
func (s span) within(other span) bool { return s.from >= other.from && s.to <= other.to }

// outside are the greatest parts of s that have none of the leaves of place, from the left to the right.
func outside(s, place span) []span {
	if s.apart(place) {
		return []span{s}
	}
	if s.within(place) {
		return nil
	}
	left, right := s.halves()
	return append(outside(left, place), outside(right, place)...)
}

// step is a node above a leaf: the part of it that the leaf is not in, and how what comes up is put together with that part's root.
type step struct {
	beside span
	join   func(t Tree, up, beside api.Digest) api.Digest
}

// atRight is Node of what comes up at the right.
func (t Tree) atRight(up, beside api.Digest) api.Digest { return t.Node(beside, up) }

// stepsUp are those from the i-th of count leaves on, upwards.
func stepsUp(count, i int) []step {
	var steps []step
	s := span{0, count}
	for s.to-s.from > 1 {
		left, right := s.halves()
		if i < left.to {
			steps = append(steps, step{right, Tree.Node})
			s = left
		} else {
			steps = append(steps, step{left, Tree.atRight})
			s = right
		}
	}
	// The shape is known from the root down alone.
	slices.Reverse(steps)
	return steps
}
