// Package codec is layer 1: numbers and texts as bytes (see shared/doc/01-codec.md).
package codec

import "math/bits"

const (
	more     = 0x80 // set in each byte of a number but its last one
	maxBytes = 10   // 64 bits by sevens
	maxTenth = 1    // nine bytes hold 63 bits: one is left
)

// alone is b without its spare room: whatever is appended goes on elsewhere, and the room stays its owner's.
func alone(b []byte) []byte { return b[:len(b):len(b)] }

// Put is b, and behind it the bytes of v (A1).
func Put(b []byte, v uint64) []byte {
	out := alone(b)
	for v >= more {
		out = append(out, byte(v)|more)
		v >>= 7
	}
	return append(out, byte(v))
}

// Get is the number whose bytes b begins with, and how many these are (A1).
func Get(b []byte) (uint64, int, bool) {
	v := uint64(0)
	for i, c := range b {
		// No eleventh byte is ever read: a tenth that says that there is one is above maxTenth, too.
		if i == maxBytes-1 && c > maxTenth {
			break
		}
		v |= uint64(c&^more) << (7 * i)
		if c >= more {
			continue
		}
		// Without its last byte the number would be the same, and shorter.
		if c == 0 && i > 0 {
			break
		}
		return v, i + 1, true
	}
	return 0, 0, false
}

// Size is how many bytes Put puts for v (A1).
func Size(v uint64) int {
	// Of 0, too, one bit is written.
	return (bits.Len64(v|1) + 6) / 7
}

// PutText is b, and behind it the bytes of the text s (A2).
func PutText(b []byte, s string) []byte {
	return append(Put(b, uint64(len(s))), s...)
}

// Text is the text whose bytes b begins with, and how many these are (A2).
func Text(b []byte) (string, int, bool) {
	v, n, ok := Get(b)
	// Compared as uint64: a number that is no int must not turn negative here.
	if !ok || v > uint64(len(b)-n) {
		return "", 0, false
	}
	end := n + int(v)
	return string(b[n:end]), end, true
}

// PutFixed is b, and behind it the four bytes of v, the highest first (A3).
func PutFixed(b []byte, v uint32) []byte {
	return append(alone(b), byte(v>>24), byte(v>>16), byte(v>>8), byte(v))
}

// Fixed is the number that the first four bytes of b tell (A3).
func Fixed(b []byte) (uint32, bool) {
	if len(b) < 4 {
		return 0, false
	}
	return uint32(b[0])<<24 | uint32(b[1])<<16 | uint32(b[2])<<8 | uint32(b[3]), true
}
