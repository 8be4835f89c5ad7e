package table

import (
	"crypto/sha256"
	"encoding/binary"
	"strings"

	"marlstone/api"
)

// Tables as the chapter's words have them, by another road than the program's: the library's uvarint, bytes of a number and SHA-256; a file is written from a plan, of which each part can be another one, and is read from its beginning on, without its index.

// rawText is a text's bytes (1).
func rawText(s string) string { return rawNumber(uint64(len(s))) + s }

// rawNumber is a number's bytes (1).
func rawNumber(v uint64) string { return string(binary.AppendUvarint(nil, v)) }

// longer is a number's bytes with one more than it takes.
func longer(v uint64) string {
	b := binary.AppendUvarint(nil, v)
	b[len(b)-1] |= 0x80
	return string(b) + "\x00"
}

// words are four bytes of each number (1).
func words(v ...uint32) string {
	var b []byte
	for _, x := range v {
		b = binary.BigEndian.AppendUint32(b, x)
	}
	return string(b)
}

// rawLeaf is the bytes of a right entry (3).
func rawLeaf(e api.Entry) string {
	if e.Del {
		return "\x01" + rawNumber(uint64(e.Seq)) + rawText(e.Key)
	}
	return "\x00" + rawNumber(uint64(e.Seq)) + rawText(e.Key) + rawText(e.Value)
}

// rawBlock is the block of l (4), be l fit or not.
func rawBlock(l []api.Entry) string {
	b, places := "", []uint32{}
	for i, e := range l {
		shared := 0
		if i%8 == 0 {
			places = append(places, uint32(len(b)))
		} else {
			for shared < len(e.Key) && strings.HasPrefix(l[i-1].Key, e.Key[:shared+1]) {
				shared++
			}
		}
		b += rawNumber(uint64(shared)) + rawText(e.Key[shared:])
		if e.Del {
			b += "\x01" + rawNumber(uint64(e.Seq))
		} else {
			b += "\x00" + rawNumber(uint64(e.Seq)) + rawText(e.Value)
		}
	}
	return b + words(places...) + words(uint32(len(places)))
}

// plan is what stands in a file, part by part.
type plan struct {
	letters string
	blocks  []string
	index   []string // of each block
	count   string
	place   string
}

// planOf is the plan of a file with these blocks, whatever they are.
func planOf(rows ...[]api.Entry) plan {
	p := plan{letters: "MARL"}
	place := 4
	for _, row := range rows {
		b, first := rawBlock(row), ""
		if len(row) > 0 {
			first = row[0].Key
		}
		p.blocks = append(p.blocks, b)
		p.index = append(p.index, rawText(first)+rawNumber(uint64(len(b))))
		place += len(b)
	}
	p.count, p.place = words(uint32(len(rows))), words(uint32(place))
	return p
}

// file is the bytes that are planned.
func (p plan) file() string {
	return p.letters + strings.Join(p.blocks, "") + strings.Join(p.index, "") + p.count + p.place
}

// sixteens are the rows of l that have a block each.
func sixteens(l []api.Entry) [][]api.Entry {
	var rows [][]api.Entry
	for i, e := range l {
		if i%16 == 0 {
			rows = append(rows, nil)
		}
		rows[i/16] = append(rows[i/16], e)
	}
	return rows
}

// rawFile is the file of l, be l fit or not.
func rawFile(l []api.Entry) string { return planOf(sixteens(l)...).file() }

// modelFit tells whether l is fit, by the words of the chapters 3 and 11.
func modelFit(l []api.Entry) bool {
	for i, e := range l {
		if len(e.Key) < 1 || len(e.Key) > 128 || len(e.Value) > 1024 || e.Del && e.Value != "" || e.Seq < 1 || e.Seq > 1<<40 {
			return false
		}
		if i > 0 && strings.Compare(l[i-1].Key, e.Key) >= 0 {
			return false
		}
	}
	return len(l) >= 1 && len(l) <= 64
}

// modelParse is the list whose file b is: all blocks but the last have sixteen entries and two places behind them, the last one ends where the index begins.
func modelParse(b string) ([]api.Entry, bool) {
	if len(b) < 12 {
		return nil, false
	}
	count, place := fixed(b[len(b)-8:]), fixed(b[len(b)-4:])
	if count < 1 || count > 4 || place < 4+8 || place > int64(len(b)-8) {
		return nil, false
	}
	r := &reader{b: b[4:place]}
	var l []api.Entry
	for range count - 1 {
		l = append(l, r.row(16)...)
		r.take(12)
	}
	// The last one has places for each eighth entry, and their number.
	if !r.bad && len(r.b) >= 4 {
		places := fixed(r.b[len(r.b)-4:])
		if end := int64(len(r.b)) - 4*places - 4; end >= 0 {
			r.b = r.b[:end]
			l = append(l, r.row(16)...)
		}
	}
	// What was read may be nothing like a file: it is held against the whole of it here.
	return l, !r.bad && modelFit(l) && rawFile(l) == b
}

func fixed(b string) int64 { return int64(binary.BigEndian.Uint32([]byte(b[:4]))) }

// reader takes parts of entries off its bytes; it is bad once there was nothing to take.
type reader struct {
	b   string
	bad bool
}

func (r *reader) take(n uint64) string {
	if n > uint64(len(r.b)) {
		r.bad, r.b = true, ""
		return ""
	}
	s := r.b[:n]
	r.b = r.b[n:]
	return s
}

func (r *reader) number() uint64 {
	v, n := binary.Uvarint([]byte(r.b))
	if n <= 0 {
		r.bad = true
	}
	r.take(uint64(max(n, 0)))
	return v
}

// row is the entries that come next, so many, or as many as there are.
func (r *reader) row(n int) []api.Entry {
	var l []api.Entry
	ahead := ""
	for len(l) < n && r.b != "" && !r.bad {
		shared := min(r.number(), uint64(len(ahead)))
		e := api.Entry{Key: ahead[:shared] + r.take(r.number())}
		e.Del = r.take(1) == "\x01"
		e.Seq = int(r.number())
		if !e.Del {
			e.Value = r.take(r.number())
		}
		l = append(l, e)
		ahead = e.Key
	}
	return l
}

// kept is the first so many bits of the library's sum.
func kept(b string, keep int) api.Digest {
	d := api.Digest(sha256.Sum256([]byte(b)))
	for bit := max(keep, 0); bit < 256; bit++ {
		d[bit/8] &^= 0x80 >> (bit % 8)
	}
	return d
}

// modelRoot is the root (5) above the entries' leaves, from these upwards: neighbours are put together by twos, and one that is left over goes up as it is, which makes the same tree.
func modelRoot(keep int, l []api.Entry) api.Digest {
	var row []api.Digest
	for _, e := range l {
		row = append(row, kept("\x00"+rawLeaf(e), keep))
	}
	for len(row) > 1 {
		var above []api.Digest
		for i := 0; i+1 < len(row); i += 2 {
			above = append(above, kept("\x01"+string(row[i][:])+string(row[i+1][:]), keep))
		}
		if len(row)%2 == 1 {
			above = append(above, row[len(row)-1])
		}
		row = above
	}
	return row[0]
}
