package mem

import (
	"crypto/sha256"
	"encoding/binary"
	"fmt"
	"sort"
	"strings"

	"marlstone/api"
)

// A mem as the chapter's words have it, by another road than the program's: all writes are kept, in order, and each answer is made of them anew, with maps, and with the library's SHA-256 and uvarint.

type model struct {
	writes []api.Entry
	last   int
}

func modelRight(e api.Entry) bool {
	if n := len(e.Key); n < 1 || n > 128 {
		return false
	}
	if n := len(e.Value); n > 1024 || n > 0 && e.Del {
		return false
	}
	return e.Seq > 0 && e.Seq <= 1_099_511_627_776
}

func (m *model) Put(e api.Entry) api.Errno {
	if !modelRight(e) {
		return api.ErrArg
	}
	if !(e.Seq > m.last) {
		return api.ErrArg
	}
	if n := m.newest(); len(n) == 64 {
		if _, is := n[e.Key]; !is {
			return api.ErrLarge
		}
	}
	m.writes = append(m.writes, e)
	m.last = e.Seq
	return api.OK
}

// newest is the last write of each key.
func (m *model) newest() map[string]api.Entry {
	n := map[string]api.Entry{}
	for _, e := range m.writes {
		n[e.Key] = e
	}
	return n
}

func (m *model) Get(key string) (api.Entry, bool) {
	e, is := m.newest()[key]
	return e, is
}

func (m *model) Range(lo, hi string) []api.Entry {
	var l []api.Entry
	for key, e := range m.newest() {
		if strings.Compare(key, lo) >= 0 && (len(hi) == 0 || strings.Compare(key, hi) < 0) {
			l = append(l, e)
		}
	}
	sort.Slice(l, func(i, j int) bool { return l[i].Key < l[j].Key })
	return l
}

func (m *model) All() []api.Entry { return m.Range("", "") }

func (m *model) Len() int { return len(m.newest()) }

func (m *model) Last() int { return m.last }

func (m *model) Chain() api.Digest { return chainOf(m.writes...) }

func (m *model) Clear() { m.writes = nil }

// chainOf is the chain behind these writes.
func chainOf(writes ...api.Entry) api.Digest {
	chain := sha256.Sum256(nil)
	for _, e := range writes {
		h := sha256.New()
		h.Write([]byte{2})
		h.Write(chain[:])
		h.Write(rawOf(e))
		copy(chain[:], h.Sum(nil))
	}
	return chain
}

// rawOf is the bytes of a right entry (3).
func rawOf(e api.Entry) []byte {
	text := func(b []byte, s string) []byte {
		return append(binary.AppendUvarint(b, uint64(len(s))), s...)
	}
	if e.Del {
		return text(binary.AppendUvarint([]byte{1}, uint64(e.Seq)), e.Key)
	}
	return text(text(binary.AppendUvarint([]byte{0}, uint64(e.Seq)), e.Key), e.Value)
}

// mems are those of the program, and models of them.
type mems interface {
	Put(api.Entry) api.Errno
	Get(string) (api.Entry, bool)
	Range(lo, hi string) []api.Entry
	All() []api.Entry
	Len() int
	Last() int
	Chain() api.Digest
	Clear()
}

// told is a list's entries, whether it is nil or not.
func told(l []api.Entry) string {
	var b strings.Builder
	for _, e := range l {
		fmt.Fprintf(&b, " (%q %q %v %d)", e.Key, e.Value, e.Del, e.Seq)
	}
	return b.String()
}

// shown is all that a mem tells; it is asked for each of its keys, and for texts just above and below them.
func shown(m mems) string {
	var b strings.Builder
	all := m.All()
	fmt.Fprintf(&b, "%s; %d, %d, %x\n", told(all), m.Len(), m.Last(), m.Chain())
	ask := []string{"", "\x00", "\xff\xff", strings.Repeat("\xff", 129)}
	for _, e := range all {
		ask = append(ask, e.Key, e.Key+"\x00", e.Key[:len(e.Key)-1])
	}
	for i, key := range ask {
		e, is := m.Get(key)
		fmt.Fprintf(&b, "%q:%s %v; %s;%s\n", key, told([]api.Entry{e}), is, told(m.Range(key, ask[(i+5)%len(ask)])), told(m.Range(ask[(i+3)%len(ask)], key)))
	}
	return b.String()
}
