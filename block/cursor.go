package block

import (
	"bytes"

	"marlstone/api"
	"marlstone/codec"
	"marlstone/entry"
)

// noBlock is what a reader gives up with: the bytes are no list's block.
type noBlock struct{}

// must gives up, unless what a block needs holds.
func must(holds bool) {
	if !holds {
		panic(noBlock{})
	}
}

// list is the list whose block b is; where b is none's, it gives up.
func list(b []byte) []api.Entry {
	end := footAt(b)
	c := cursor{b: b[:end]}
	var l []api.Entry
	var places []byte
	ahead := ""
	for c.at < end {
		if len(l)%api.Restart == 0 {
			places = codec.PutFixed(places, uint32(c.at))
			ahead = ""
		}
		// Asked before more is read, so that no more is kept than a list may have.
		must(len(l) < api.MaxCount)
		e := c.entry(ahead)
		l = append(l, e)
		ahead = e.Key
	}
	must(len(l) > 0 && entry.Sorted(l))
	must(bytes.Equal(b[end:], foot(places)))
	return l
}

// footAt is the place in b at which the foot begins, by the number of places that b ends with.
func footAt(b []byte) int {
	must(len(b) >= fixedSize)
	places, _ := codec.Fixed(b[len(b)-fixedSize:])
	size := (uint64(places) + 1) * fixedSize
	must(size <= uint64(len(b)))
	return len(b) - int(size)
}

// cursor reads entries' bytes one by one, and gives up where there is nothing to read.
type cursor struct {
	b  []byte
	at int
}

// entry is the right entry that comes next, behind one with the key ahead.
func (c *cursor) entry(ahead string) api.Entry {
	shared := c.number()
	// Compared as uint64: a number that is no int must not turn negative here.
	must(shared <= uint64(len(ahead)))
	e := api.Entry{Key: ahead[:shared] + c.text()}
	must(int(shared) == common(ahead, e.Key))
	e.Del = c.del()
	// A number above the greatest int turns negative, which no right Seq is.
	e.Seq = int(c.number())
	if !e.Del {
		e.Value = c.text()
	}
	must(entry.Right(e))
	return e
}

func (c *cursor) number() uint64 {
	v, n, ok := codec.Get(c.b[c.at:])
	must(ok)
	c.at += n
	return v
}

func (c *cursor) text() string {
	s, n, ok := codec.Text(c.b[c.at:])
	must(ok)
	c.at += n
	return s
}

func (c *cursor) del() bool {
	must(c.at < len(c.b))
	v := c.b[c.at]
	must(v == kept || v == taken)
	c.at++
	return v == taken
}
