package disk

import (
	"fmt"
	"slices"
	"strings"

	"marlstone/api"
)

// A disk as the chapter's words have it, by another road than the program's: each byte by itself knows whether it is synced, and when it was appended; files stand in a list, and all that can be reckoned is reckoned anew.

type modelByte struct {
	b      byte
	synced bool
	when   int
}

type modelFile struct {
	name string
	all  []modelByte
}

type model struct {
	capacity, when int
	files          []modelFile
	down, armed    bool
	wait, keep     int
}

func newModel(capacity int) *model { return &model{capacity: max(capacity, 0)} }

func (m *model) at(name string) int {
	return slices.IndexFunc(m.files, func(f modelFile) bool { return f.name == name })
}

// first is the error that a call has ahead of its own; there tells that its first name must be a file's.
func (m *model) first(writes, there bool, names ...string) api.Errno {
	if writes && !m.down && m.armed {
		m.wait--
		if m.wait == 0 {
			m.Crash(m.keep)
		}
	}
	switch wrong := func(s string) bool { return s == "" || len(s) > 64 }; {
	case m.down:
		return api.ErrDown
	case slices.ContainsFunc(names, wrong):
		return api.ErrArg
	case there && m.at(names[0]) < 0:
		return api.ErrNone
	}
	return api.OK
}

func (m *model) Create(name string) api.Errno {
	e := m.first(true, false, name)
	if e == api.OK && m.at(name) >= 0 {
		return api.ErrState
	}
	if e == api.OK {
		m.files = append(m.files, modelFile{name: name})
	}
	return e
}

func (m *model) Append(name string, b []byte) api.Errno {
	e := m.first(true, true, name)
	if e == api.OK && m.Used()+len(b) > m.capacity {
		return api.ErrFull
	}
	if e == api.OK {
		f := &m.files[m.at(name)]
		for _, c := range b {
			m.when++
			f.all = append(f.all, modelByte{b: c, when: m.when})
		}
	}
	return e
}

func (m *model) Sync(name string) api.Errno {
	e := m.first(true, true, name)
	if e == api.OK {
		all := m.files[m.at(name)].all
		for i := range all {
			all[i].synced = true
		}
	}
	return e
}

func (m *model) Rename(from, to string) api.Errno {
	e := m.first(true, true, from, to)
	if e == api.OK && from != to {
		m.files = slices.DeleteFunc(m.files, func(f modelFile) bool { return f.name == to })
		m.files[m.at(from)].name = to
	}
	return e
}

func (m *model) Delete(name string) api.Errno {
	e := m.first(true, true, name)
	if e == api.OK {
		m.files = slices.DeleteFunc(m.files, func(f modelFile) bool { return f.name == name })
	}
	return e
}

func (m *model) List() []string {
	var l []string
	for _, f := range m.files {
		if !m.down {
			l = append(l, f.name)
		}
	}
	slices.Sort(l)
	return l
}

func (m *model) Read(name string) ([]byte, api.Errno) {
	e := m.first(false, true, name)
	if e != api.OK {
		return nil, e
	}
	var b []byte
	for _, x := range m.files[m.at(name)].all {
		b = append(b, x.b)
	}
	return b, e
}

func (m *model) Used() int {
	n := 0
	for _, f := range m.files {
		n += len(f.all)
	}
	return n
}

func (m *model) Up() bool { return !m.down }

func (m *model) Clone() *model {
	c := *m
	c.files = nil
	for _, f := range m.files {
		c.files = append(c.files, modelFile{f.name, slices.Clone(f.all)})
	}
	return &c
}

func (m *model) Crash(keep int) {
	if m.down {
		return
	}
	var whens []int
	for _, f := range m.files {
		for _, x := range f.all {
			if !x.synced {
				whens = append(whens, x.when)
			}
		}
	}
	slices.Sort(whens)
	whens = whens[:min(max(keep, 0), len(whens))]
	for i, f := range m.files {
		var left []modelByte
		for _, x := range f.all {
			if x.synced || slices.Contains(whens, x.when) {
				left = append(left, modelByte{b: x.b, synced: true})
			}
		}
		m.files[i].all = left
	}
	m.down, m.armed = true, false
}

func (m *model) Start() { m.down = false }

func (m *model) Arm(n, keep int) { m.armed, m.wait, m.keep = n > 0, n, keep }

// disks are those of the program, and models of them.
type disks[D any] interface {
	Create(string) api.Errno
	Append(string, []byte) api.Errno
	Sync(string) api.Errno
	Rename(from, to string) api.Errno
	Delete(string) api.Errno
	List() []string
	Read(string) ([]byte, api.Errno)
	Used() int
	Up() bool
	Clone() D
	Crash(int)
	Start()
	Arm(n, keep int)
}

// shown is what a disk tells of itself as it is, without a change.
func shown[D disks[D]](d D) string {
	var b strings.Builder
	fmt.Fprint(&b, d.Up(), " ", d.Used())
	for _, name := range d.List() {
		body, e := d.Read(name)
		fmt.Fprintf(&b, " %q:%q:%d", name, body, e)
	}
	return b.String()
}

// started is what a disk shows once it is brought up.
func started[D disks[D]](d D) string {
	d.Start()
	return shown(d)
}

// whole is all that could come to be seen of a disk: what it shows; what is there behind each crash; which call would crash (of the next nine), and what were there behind that; and how much room there is (up to 40 bytes). Its clones are asked.
func whole[D disks[D]](d D) string {
	l := []string{shown(d), started(d.Clone())}
	for keep := -1; keep <= d.Used()+1; keep++ {
		c := d.Clone()
		c.Start()
		c.Crash(keep)
		l = append(l, started(c))
	}
	return strings.Join(append(l, fuse(d.Clone()), room(d.Clone())), "\n")
}

func fuse[D disks[D]](d D) string {
	d.Start()
	for k := range 9 {
		if d.Sync("") == api.ErrDown {
			return fmt.Sprint("the call ", k+1, ": ", started(d))
		}
	}
	return "no call"
}

func room[D disks[D]](d D) string {
	const name = "a name that no other file has"
	d.Start()
	d.Arm(0, 0)
	d.Create(name)
	for n := range 41 {
		if d.Append(name, make([]byte, 1)) != api.OK {
			return fmt.Sprint("room of ", n)
		}
	}
	return "much room"
}

// step is a call; what a call does not take is not looked at.
type step struct {
	call     string
	name, to string
	b        string
	n, keep  int
}

// done does a step, and tells what was answered.
func done[D disks[D]](d D, s step) string {
	e := api.OK
	switch s.call {
	case "Create":
		e = d.Create(s.name)
	case "Append":
		e = d.Append(s.name, []byte(s.b))
	case "Sync":
		e = d.Sync(s.name)
	case "Rename":
		e = d.Rename(s.name, s.to)
	case "Delete":
		e = d.Delete(s.name)
	case "Read":
		b, err := d.Read(s.name)
		return fmt.Sprintf("%q, %v", b, err)
	case "Crash":
		d.Crash(s.keep)
	case "Start":
		d.Start()
	case "Arm":
		d.Arm(s.n, s.keep)
	case "List":
		return fmt.Sprintf("%q", d.List())
	case "Used":
		return fmt.Sprint(d.Used())
	case "Up":
		return fmt.Sprint(d.Up())
	}
	return e.Error()
}
