package frame

import (
	"encoding/binary"
	"hash/crc32"

	"marlstone/api"
)

// Frames as the chapter's words have them, by another road than the program's: the library's CRC, which goes on from the length to the body, and the library's bytes of a number.

// framed is the bytes of the frame of body, however long that is.
func framed(body string) []byte {
	length := binary.BigEndian.AppendUint32(nil, uint32(len(body)))
	crc := crc32.Update(crc32.ChecksumIEEE(length), crc32.IEEETable, []byte(body))
	return append(binary.BigEndian.AppendUint32(length, crc), body...)
}

// row is the bytes of the frames of bodies, one behind the other.
func row(bodies ...string) []byte {
	var b []byte
	for _, body := range bodies {
		b = append(b, framed(body)...)
	}
	return b
}

// modelNext is what Next should answer.
func modelNext(b string) (string, int, api.Errno) {
	if len(b) < 4 {
		return "", 0, api.ErrNone
	}
	length := int64(b[0])*1<<24 + int64(b[1])*1<<16 + int64(b[2])*1<<8 + int64(b[3])
	if length > 65536 {
		return "", 0, api.ErrForm
	}
	if int64(len(b)) < 8+length {
		return "", 0, api.ErrNone
	}
	body := b[8 : 8+length]
	if string(framed(body)) != b[:8+length] {
		return "", 0, api.ErrForm
	}
	return body, 8 + int(length), api.OK
}

// modelAll is what All should answer.
func modelAll(b string) ([]string, int, api.Errno) {
	if b == "" {
		return nil, 0, api.OK
	}
	body, n, e := modelNext(b)
	if e != api.OK {
		return nil, 0, e
	}
	bodies, k, e := modelAll(b[n:])
	return append([]string{body}, bodies...), n + k, e
}
