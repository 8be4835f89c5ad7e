package move

import (
	"fmt"
	"math/rand/v2"
	"slices"
	"testing"

	"marlstone/api"
	"marlstone/clash"
	"marlstone/pick"
	"marlstone/summary"
	"marlstone/table"
)

// liar hands in rows that are not the store's, by chance: where few bits are kept, some are taken.
type liar struct {
	r *rand.Rand
	s store
}

// entry is one that a table may have at this key.
func (m liar) entry(key string) api.Entry {
	e := api.Entry{Key: key, Seq: 1 + m.r.IntN(500)}
	if m.r.IntN(3) == 0 {
		e.Del = true
	} else {
		e.Value = fmt.Sprint(m.r.IntN(100))
	}
	return e
}

// row is as long as real, and has the same ends; one of eight has not.
func (m liar) row(real []api.Entry) []api.Entry {
	row := slices.Clone(real)
	for i, e := range row {
		switch m.r.IntN(4) {
		case 0:
		case 1:
			if 0 < i && i < len(row)-1 {
				row[i] = m.entry(row[i-1].Key + "\x01")
				break
			}
			fallthrough
		default:
			row[i] = m.entry(e.Key)
		}
	}
	if m.r.IntN(8) == 0 {
		i := m.r.IntN(len(row))
		row[i] = m.entry(string("abcdez"[m.r.IntN(6)]))
	}
	return row
}

// rows are those that the next merge asks for, of which some are others.
func (m liar) rows() [][]api.Entry {
	rows := m.s.asked()
	for k := range rows {
		if m.r.IntN(len(rows)) == 0 {
			rows[k] = m.row(rows[k])
		}
	}
	if m.r.IntN(20) == 0 {
		i, j := m.r.IntN(len(rows)), m.r.IntN(len(rows))
		rows[i], rows[j] = rows[j], rows[i]
	}
	return rows
}

// shown tells whether two unlike texts with one sum come out of rows, which were taken.
func (s store) shown(rows [][]api.Entry) bool {
	for k, row := range s.asked() {
		if a, b, is := clash.OfLists(s.w, table.Leaves(row), table.Leaves(rows[k])); is && clash.OfTexts(s.w, a, b) {
			return true
		}
	}
	return false
}

// What follows: rows that are taken, and are not the store's, have two unlike texts with one sum; and the list is right again, and the score less, all the same.
func TestWhatIsTakenIsSoOrThereIsAClash(t *testing.T) {
	var texts []string
	for _, text := range due {
		if len(text) < 500 {
			texts = append(texts, text)
		}
	}
	texts = append(texts, "0:a=1,b-,c=3,d=4 0:b=1,c-,e=1 0:a-,c=1,d=1 0:a=2,b=2,c=2,d=2,e=2 0:c=9 1:a=1,b=1 1:d=1,e=1,f-")
	lies, refused := 0, 0
	for seed, text := range texts {
		for _, keep := range []int{0, 1, 2, 4, 256} {
			m := liar{rand.New(rand.NewPCG(17, uint64(100+seed))), made(keep, text)}
			for range 300 {
				rows := m.rows()
				next, _, err := compacts(t, m.s.w, m.s.l, rows, "a lie")
				if sameRows(rows, m.s.asked()) {
					if err != api.OK {
						t.Errorf("Compact of %.90s: %v", text, err)
					}
					continue
				}
				if err != api.OK {
					refused++
					continue
				}
				lies++
				if keep == 256 || !m.s.shown(rows) {
					t.Errorf("Compact, %d bits: %v were taken for %v, and there is no clash", keep, rows, m.s.asked())
				}
				if !summary.Right(next) || pick.Score(next) >= pick.Score(m.s.l) {
					t.Errorf("Compact, %d bits, of %v: %v", keep, rows, next)
				}
			}
		}
	}
	if lies < 1000 || refused < 1000 {
		t.Errorf("%d lies that were taken, %d that were not: too few to say anything", lies, refused)
	}
}
