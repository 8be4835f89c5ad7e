package proof

import (
	"fmt"
	"math/rand/v2"
	"slices"
	"testing"

	"marlstone/api"
	"marlstone/clash"
	"marlstone/summary"
	"marlstone/table"
)

// liar makes proofs of what is not so, by chance: where few bits are kept, some are taken.
type liar struct {
	r *rand.Rand
	s store
}

// key is one of a few.
func (m liar) key() string { return string("abcdefghz"[m.r.IntN(9)]) }

func (m liar) entry() api.Entry {
	e := api.Entry{Key: m.key(), Seq: 1 + m.r.IntN(500)}
	if m.r.IntN(3) == 0 {
		e.Del = true
	} else {
		e.Value = fmt.Sprint(m.r.IntN(100))
	}
	return e
}

// leaf is that of another entry, three times of four.
func (m liar) leaf(real []byte) []byte {
	if m.r.IntN(4) == 0 {
		return real
	}
	return []byte(rawLeaf(m.entry()))
}

// path is the real one, of which some digests are others.
func (m liar) path(real []api.Digest) []api.Digest {
	path := slices.Clone(real)
	for i := range path {
		if m.r.IntN(4) == 0 {
			path[i] = kept(fmt.Sprint(m.r.Int()), m.s.w.Bits)
		}
	}
	return path
}

// row is one that may stand as a table's.
func (m liar) row() []api.Entry {
	row := []api.Entry{m.entry()}
	for range m.r.IntN(3) {
		if e := m.entry(); e.Key > row[len(row)-1].Key {
			row = append(row, e)
		}
	}
	return row
}

// stated is the real store, or one of which some rows are others.
func (m liar) stated() store {
	if m.r.IntN(3) > 0 {
		return m.s
	}
	o := store{w: m.s.w}
	for i, row := range m.s.rows {
		if m.r.IntN(2) == 0 {
			row = m.row()
		}
		o = o.with(m.s.l[i].Level, row)
	}
	if !summary.Right(o.l) {
		return m.s
	}
	return o
}

// opening is o, or one that is laid in its place.
func (m liar) opening(o api.Opening) api.Opening {
	if m.r.IntN(2) == 0 {
		return o
	}
	return api.Opening{At: o.At, Leaf: m.leaf(o.Leaf), Path: m.path(o.Path)}
}

// proof is one of the key in this store or another, with some points that are not so.
func (m liar) proof(t *testing.T, key string) api.Proof {
	s := m.stated()
	// The points of any key: of this one there may be none that is Between.
	p := s.proof(t, []string{key, m.key()}[m.r.IntN(2)])
	for i, point := range p.Points {
		p.Points[i] = api.Point{Between: point.Between, A: m.opening(point.A), B: point.B}
		if point.Between {
			p.Points[i].B = m.opening(point.B)
		}
	}
	return p
}

// sweep is one of the keys in this store or another, with some spans that are not so.
func (m liar) sweep(t *testing.T, lo, hi string) api.Sweep {
	w := m.stated().sweep(t, lo, hi)
	for i, span := range w.Spans {
		if m.r.IntN(2) == 0 {
			continue
		}
		for k, leaf := range span.Leaves {
			w.Spans[i].Leaves[k] = m.leaf(leaf)
		}
		w.Spans[i].Path = m.path(span.Path)
	}
	return w
}

// shownBySummary tells whether b is not the summary of s, and both texts are a clash.
func (s store) shownBySummary(b []byte) bool {
	return clash.OfTexts(s.w, summary.Text(b), summary.Text([]byte(rawSummary(s.l))))
}

// shown tells whether two unlike texts with one sum come out of p, which was taken.
func (s store) shown(key string, p api.Proof) bool {
	if s.shownBySummary(p.Summary) {
		return true
	}
	asked := summary.Covering(s.l, key)
	for k, point := range p.Points {
		leaves := table.Leaves(s.rows[asked[k]])
		for _, o := range []api.Opening{point.A, point.B} {
			if a, b, is := clash.Of(s.w, leaves, o.At, o.Leaf, o.Path); is && clash.OfTexts(s.w, a, b) {
				return true
			}
		}
	}
	return false
}

// shownBySweep tells whether two unlike texts with one sum come out of w, which was taken.
func (s store) shownBySweep(lo, hi string, w api.Sweep) bool {
	if s.shownBySummary(w.Summary) {
		return true
	}
	asked := summary.Overlapping(s.l, lo, hi)
	for k, span := range w.Spans {
		leaves := table.Leaves(s.rows[asked[k]])
		if a, b, is := clash.OfRange(s.w, leaves, span.From, span.Leaves, span.Path); is && clash.OfTexts(s.w, a, b) {
			return true
		}
	}
	return false
}

// What follows: if what Check tells is not what the store has, there are two unlike texts with one sum.
func TestWhatCheckTellsIsSoOrThereIsAClash(t *testing.T) {
	lies, bySummary := 0, 0
	for seed, text := range texts {
		for _, keep := range []int{0, 1, 2, 4, 256} {
			m := liar{rand.New(rand.NewPCG(16, uint64(seed))), made(keep, text)}
			for range 1500 {
				key := m.key()
				p := m.proof(t, key)
				e, is, err := held(t, m.s.w, m.s.digest(), key, p, "a lie")
				wantE, wantIs := modelHas(m.s.rows, key)
				if err != api.OK || e == wantE && is == wantIs {
					continue
				}
				lies++
				if m.s.shownBySummary(p.Summary) {
					bySummary++
				}
				if keep == 256 || !m.s.shown(key, p) {
					t.Errorf("Check of %q, %d bits: %v, %v is not so, and there is no clash: %v", key, keep, e, is, p)
				}
			}
		}
	}
	if bySummary < 100 || lies-bySummary < 100 {
		t.Errorf("%d lies that were taken, %d by the summary: too few to say anything", lies, bySummary)
	}
}

// The same of sweeps.
func TestWhatCheckSweepTellsIsSoOrThereIsAClash(t *testing.T) {
	lies, bySummary := 0, 0
	for seed, text := range texts {
		for _, keep := range []int{0, 1, 2, 4, 256} {
			m := liar{rand.New(rand.NewPCG(17, uint64(seed))), made(keep, text)}
			for range 1500 {
				lo, hi := m.key(), m.key()
				if m.r.IntN(4) == 0 {
					hi = ""
				}
				w := m.sweep(t, lo, hi)
				l, err := heldSweep(t, m.s.w, m.s.digest(), lo, hi, w, "a lie")
				if err != api.OK || slices.Equal(l, modelWithin(modelWhole(m.s.rows), lo, hi)) {
					continue
				}
				lies++
				if m.s.shownBySummary(w.Summary) {
					bySummary++
				}
				if keep == 256 || !m.s.shownBySweep(lo, hi, w) {
					t.Errorf("CheckSweep from %q to %q, %d bits: %v is not so, and there is no clash: %v", lo, hi, keep, l, w)
				}
			}
		}
	}
	if bySummary < 100 || lies-bySummary < 100 {
		t.Errorf("%d lies that were taken, %d by the summary: too few to say anything", lies, bySummary)
	}
}
