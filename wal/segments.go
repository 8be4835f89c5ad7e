package wal

import (
	"strconv"
	"strings"

	"marlstone/api"
	"marlstone/disk"
	"marlstone/frame"
)

// prefix is what each segment's name begins with.
const prefix = "wal-"

// segments is a disk with a view of those on it. It stands apart from Log, so that a log does not hand out the disk's calls.
type segments struct {
	*disk.Disk
}

// nameOf is the name of the segment n, which is from 0 to MaxSegment.
func nameOf(n int) string {
	// One more digit is put ahead and cut off, so that there are eight.
	return prefix + strconv.Itoa(MaxSegment + 1 + n)[1:]
}

// numberOf is the number of the segment with that name, and whether it is one's.
func numberOf(name string) (int, bool) {
	n, err := strconv.Atoi(strings.TrimPrefix(name, prefix))
	if err != nil || n < 1 || n > MaxSegment {
		return 0, false
	}
	// A number can be written in more ways than the one that counts.
	return n, nameOf(n) == name
}

// numbers is those of all segments, rising, as their names do.
func (s segments) numbers() []int {
	var all []int
	for _, name := range s.List() {
		if n, is := numberOf(name); is {
			all = append(all, n)
		}
	}
	return all
}

// behind is one more than the last of rising numbers; 1, if there are none.
func behind(numbers []int) int {
	if len(numbers) == 0 {
		return 1
	}
	return numbers[len(numbers)-1] + 1
}

// records is all that these segments hold, in order.
func (s segments) records(numbers []int) ([][]byte, api.Errno) {
	var all [][]byte
	for _, n := range numbers {
		b, err := s.Read(nameOf(n))
		if err != api.OK {
			return nil, err
		}
		some, _, rest := frame.All(b)
		// A beginning of a frame is what a crash leaves; no crash leaves anything else.
		if rest == api.ErrForm {
			return nil, api.ErrBroken
		}
		all = append(all, some...)
	}
	return all, api.OK
}

// each does something with one segment's name after the other, up to the first error.
func each(numbers []int, do func(name string) api.Errno) api.Errno {
	for _, n := range numbers {
		if err := do(nameOf(n)); err != api.OK {
			return err
		}
	}
	return api.OK
}
