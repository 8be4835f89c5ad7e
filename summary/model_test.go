package summary

import (
	"crypto/sha256"
	"encoding/binary"
	"strings"

	"marlstone/api"
)

// Summaries as the chapter's words have them, by another road than the program's: the library's uvarint and SHA-256, all pairs of tables held against each other, and bytes that are read with any numbers, and then held against what is written of the list.

func rawNumber(v uint64) string { return string(binary.AppendUvarint(nil, v)) }

func rawText(s string) string { return rawNumber(uint64(len(s))) + s }

// longer is a number's bytes with one more than it takes.
func longer(v uint64) string {
	b := binary.AppendUvarint(nil, v)
	b[len(b)-1] |= 0x80
	return string(b) + "\x00"
}

// rawTable is the bytes of a table, be it possible or not.
func rawTable(x api.Table) string {
	return rawNumber(uint64(x.Level)) + rawNumber(uint64(x.Count)) + string(x.Root[:]) + rawText(x.First) + rawText(x.Last)
}

// rawBytes is the bytes of l, be it right or not.
func rawBytes(l []api.Table) string {
	b := rawNumber(uint64(len(l)))
	for _, x := range l {
		b += rawTable(x)
	}
	return b
}

// modelPossible tells whether there may be such a table.
func modelPossible(x api.Table) bool {
	switch x.Level {
	default:
		return false
	case 0, 1, 2, 3:
	}
	for _, key := range []string{x.First, x.Last} {
		if key == "" || len(key) > 128 {
			return false
		}
	}
	ends := strings.Compare(x.First, x.Last)
	switch {
	case x.Count <= 0:
		return false
	case x.Count == 1:
		return ends == 0
	case x.Count <= 64:
		return ends == -1
	}
	return false
}

// modelRight tells whether l is right, by a look at each table and at all pairs.
func modelRight(l []api.Table) bool {
	right := len(l) <= 512
	for i, x := range l {
		right = right && modelPossible(x)
		for j, y := range l[:i] {
			if y.Level > x.Level {
				right = false
			}
			if j+1 == i && x.Level == y.Level && x.Level != 0 && strings.Compare(y.Last, x.First) != -1 {
				right = false
			}
		}
	}
	return right
}

// modelParse is the right list whose bytes b is.
func modelParse(b string) ([]api.Table, bool) {
	rest := b
	take := func(n uint64) string {
		n = min(n, uint64(len(rest)))
		s := rest[:n]
		rest = rest[n:]
		return s
	}
	number := func() uint64 {
		v, n := binary.Uvarint([]byte(rest))
		take(uint64(max(n, 0)))
		return v
	}
	var l []api.Table
	for left := number(); left > 0 && rest != ""; left-- {
		x := api.Table{Level: int(number()), Count: int(number())}
		copy(x.Root[:], take(32))
		x.First = take(number())
		x.Last = take(number())
		l = append(l, x)
	}
	// What was read may be nothing like a summary: it is held against the whole of the bytes here.
	if !modelRight(l) || rawBytes(l) != b {
		return nil, false
	}
	return l, true
}

// kept is the first so many bits of the library's sum.
func kept(b string, keep int) api.Digest {
	d := api.Digest(sha256.Sum256([]byte(b)))
	for bit := max(keep, 0); bit < 256; bit++ {
		d[bit/8] &^= 0x80 >> (bit % 8)
	}
	return d
}

// modelCovering is the places of the tables that are neither above key nor below it.
func modelCovering(l []api.Table, key string) []int {
	var at []int
	for i, x := range l {
		if strings.Compare(x.First, key) == 1 || strings.Compare(x.Last, key) == -1 {
			continue
		}
		at = append(at, i)
	}
	return at
}

// modelOverlapping is the places of the tables that are neither above the keys from lo on and below hi nor below them.
func modelOverlapping(l []api.Table, lo, hi string) []int {
	var at []int
	for i, x := range l {
		if strings.Compare(x.Last, lo) == -1 {
			continue
		}
		if hi != "" && (strings.Compare(hi, lo) != 1 || strings.Compare(x.First, hi) != -1) {
			continue
		}
		at = append(at, i)
	}
	return at
}
