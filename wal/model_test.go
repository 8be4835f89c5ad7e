package wal

import (
	"encoding/binary"
	"fmt"
	"hash/crc32"
	"regexp"
	"strconv"
	"strings"

	"marlstone/api"
	"marlstone/disk"
)

// A log as the chapter's words have it, by another road than the program's: names by a pattern and by Sprintf, frames by the library's CRC, and each segment gone through anew for each thing that is asked. It stands on a disk of its own.

type model struct {
	d       *disk.Disk
	current int
}

// framed is the bytes of the frame of body, however long that is.
func framed(body string) string {
	length := binary.BigEndian.AppendUint32(nil, uint32(len(body)))
	crc := crc32.ChecksumIEEE(append(length[:4:4], body...))
	return string(binary.BigEndian.AppendUint32(length, crc)) + body
}

// row is the bytes of the frames of bodies, one behind the other.
func row(bodies ...string) string {
	var b strings.Builder
	for _, body := range bodies {
		b.WriteString(framed(body))
	}
	return b.String()
}

// modelFrames is the bodies of the frames with which b begins, and whether what is left may be there: nothing, or a beginning of a frame.
func modelFrames(b string) (bodies []string, fit bool) {
	for len(b) >= 4 {
		n := int(binary.BigEndian.Uint32([]byte(b)))
		if n > 65536 {
			return bodies, false
		}
		if len(b) < 8+n {
			return bodies, true
		}
		body := b[8 : 8+n]
		if framed(body) != b[:8+n] {
			return bodies, false
		}
		bodies, b = append(bodies, body), b[8+n:]
	}
	return bodies, true
}

var pattern = regexp.MustCompile(`\Awal-[0-9]{8}\z`)

// modelNumber is 0 for what is no segment's name.
func modelNumber(name string) int {
	if !pattern.MatchString(name) {
		return 0
	}
	n, _ := strconv.ParseInt(name[4:], 10, 64)
	return int(n)
}

func modelName(n int) string { return fmt.Sprintf("wal-%08d", n) }

func modelOpen(d *disk.Disk, from int) (*model, []string, api.Errno) {
	if from <= 0 || from >= 100_000_000 {
		return nil, nil, api.ErrArg
	}
	if !d.Up() {
		return nil, nil, api.ErrDown
	}
	var records []string
	number := from
	for _, name := range d.List() {
		n := modelNumber(name)
		if n > 0 && n >= number {
			number = n + 1
		}
		if n >= from {
			b, _ := d.Read(name)
			bodies, fit := modelFrames(string(b))
			if !fit {
				return nil, nil, api.ErrBroken
			}
			records = append(records, bodies...)
		}
	}
	if number == 100_000_000 {
		return nil, nil, api.ErrLarge
	}
	for _, name := range d.List() {
		if modelNumber(name) >= from {
			if e := d.Sync(name); e != api.OK {
				return nil, nil, e
			}
		}
	}
	if e := d.Create(modelName(number)); e != api.OK {
		return nil, nil, e
	}
	return &model{d, number}, records, api.OK
}

func (m *model) Append(b []byte) api.Errno {
	if len(b) > 65536 {
		return api.ErrLarge
	}
	return m.d.Append(modelName(m.current), []byte(framed(string(b))))
}

func (m *model) Sync() api.Errno { return m.d.Sync(modelName(m.current)) }

func (m *model) Rotate() (int, api.Errno) {
	if m.current == 99_999_999 {
		return 0, api.ErrLarge
	}
	e := m.Sync()
	if e == api.OK {
		e = m.d.Create(modelName(m.current + 1))
	}
	if e != api.OK {
		return 0, e
	}
	m.current++
	return m.current, api.OK
}

func (m *model) Drop(below int) api.Errno {
	if m.current < below {
		return api.ErrArg
	}
	if !m.d.Up() {
		return api.ErrDown
	}
	for _, name := range m.d.List() {
		if n := modelNumber(name); n > 0 && n < below {
			if e := m.d.Delete(name); e != api.OK {
				return e
			}
		}
	}
	return api.OK
}

func (m *model) Number() int { return m.current }

// logs are those of the program, and models of them.
type logs interface {
	Append([]byte) api.Errno
	Sync() api.Errno
	Rotate() (int, api.Errno)
	Drop(int) api.Errno
	Number() int
}

// shown is what a disk tells of itself as it is, without a change.
func shown(d *disk.Disk) string {
	var b strings.Builder
	fmt.Fprint(&b, d.Up(), " ", d.Used())
	for _, name := range d.List() {
		body, e := d.Read(name)
		fmt.Fprintf(&b, " %q:%q:%d", name, body, e)
	}
	return b.String()
}

// whole is all that could come to be seen of a disk: what it shows; what is there behind a crash that keeps so much (up to 60 bytes); and which call would crash (of the next nine), and what were there behind that. Its clones are asked.
func whole(d *disk.Disk) string {
	l := []string{shown(d)}
	for keep := range min(d.Used(), 60) + 1 {
		c := d.Clone()
		c.Start()
		c.Crash(keep)
		c.Start()
		l = append(l, shown(c))
	}
	c := d.Clone()
	c.Start()
	for k := range 9 {
		if c.Sync("") == api.ErrDown {
			c.Start()
			l = append(l, fmt.Sprint("the call ", k+1, ": ", shown(c)))
			break
		}
	}
	return strings.Join(l, "\n")
}
