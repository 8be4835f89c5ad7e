package summary

import (
	"marlstone/api"
	"marlstone/codec"
)

// Parse is the right list whose bytes b is (N1).
func Parse(b []byte) ([]api.Table, api.Errno) {
	r := reader{rest: b}
	l := r.tables()
	// Numbers and texts have one way to be written: so nothing else than b is written of l.
	if r.bad || len(r.rest) > 0 || !Right(l) {
		return nil, api.ErrForm
	}
	return l, api.OK
}

// reader takes parts off its bytes; once there was nothing to take it is bad, and has nothing left: what is read then is zero.
type reader struct {
	rest []byte
	bad  bool
}

// pass lets n bytes be read, if ok, else none any more.
func (r *reader) pass(n int, ok bool) {
	if !ok {
		r.bad, r.rest = true, nil
		return
	}
	r.rest = r.rest[n:]
}

// tables are as many as a number ahead of them says.
func (r *reader) tables() []api.Table {
	n := r.number()
	// Asked ahead, so that no more is read than a list may have.
	if n > api.MaxTables {
		r.pass(0, false)
		return nil
	}
	var l []api.Table
	for range n {
		l = append(l, r.table())
	}
	return l
}

func (r *reader) table() api.Table {
	var x api.Table
	// A number above the greatest int turns negative, which no right Level or Count is.
	x.Level = int(r.number())
	x.Count = int(r.number())
	x.Root = r.digest()
	x.First = r.text()
	x.Last = r.text()
	return x
}

func (r *reader) number() uint64 {
	v, n, ok := codec.Get(r.rest)
	r.pass(n, ok)
	return v
}

func (r *reader) text() string {
	s, n, ok := codec.Text(r.rest)
	r.pass(n, ok)
	return s
}

func (r *reader) digest() api.Digest {
	var d api.Digest
	n := copy(d[:], r.rest)
	r.pass(n, n == len(d))
	return d
}
