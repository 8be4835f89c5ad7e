package table

import (
	"bytes"
	"iter"

	"marlstone/api"
	"marlstone/block"
	"marlstone/codec"
	"marlstone/entry"
)

const (
	letters   = "MARL" // what a file begins with
	perBlock  = 16     // entries of a block; the last one may have less
	fixedSize = 4      // bytes of a place, and of a number of blocks
	footSize  = 2 * fixedSize
)

// Bytes is the file of the list l (K2).
func Bytes(l []api.Entry) ([]byte, api.Errno) {
	if !Fit(l) {
		return nil, api.ErrArg
	}
	b := []byte(letters)
	var index []byte
	count := 0
	for first, part := range blocks(l) {
		b = append(b, part...)
		index = codec.Put(codec.PutText(index, first), uint64(len(part)))
		count++
	}
	place := len(b)
	b = codec.PutFixed(append(b, index...), uint32(count))
	return codec.PutFixed(b, uint32(place)), api.OK
}

// blocks goes through those of a fit list: each one's first key, and its bytes.
func blocks(l []api.Entry) iter.Seq2[string, []byte] {
	return func(yield func(string, []byte) bool) {
		for from := 0; from < len(l); from += perBlock {
			part := l[from:min(from+perBlock, len(l))]
			// No error: a part of a fit list is fit.
			b, _ := block.Bytes(part)
			if !yield(part[0].Key, b) {
				return
			}
		}
	}
}

// Parse is the list whose file b is (K2).
func Parse(b []byte) ([]api.Entry, api.Errno) {
	l := read(b)
	// There is one file of each list: so b is that of the one that was read, or none's.
	if file, err := Bytes(l); err != api.OK || !bytes.Equal(file, b) {
		return nil, api.ErrForm
	}
	return l, api.OK
}

// read is the list whose file b is, if it is one; of other bytes whatever list was read, of some entries or none.
func read(b []byte) []api.Entry {
	var l []api.Entry
	for part := range stored(b) {
		entries, err := block.Parse(part)
		l = append(l, entries...)
		// Asked at each block, so that no more is kept than a list may have.
		if err != api.OK || len(l) > api.MaxCount {
			return nil
		}
	}
	return l
}

// stored goes through the blocks that stand in b, as far as its index tells them.
func stored(b []byte) iter.Seq[[]byte] {
	return func(yield func([]byte) bool) {
		rest, index := parts(b)
		for len(index) > 0 {
			_, n, isKey := codec.Text(index)
			size, k, isSize := codec.Get(index[n:])
			// Compared as uint64: a number that is no int must not turn negative here.
			if !isKey || !isSize || size > uint64(len(rest)) || !yield(rest[:size]) {
				return
			}
			index, rest = index[n+k:], rest[size:]
		}
	}
}

// parts are what stands between the letters and the index of b, and the index; nothing, if b is too short, or tells no place in it.
func parts(b []byte) (body, index []byte) {
	end := len(b) - footSize
	if end < len(letters) {
		return nil, nil
	}
	place, _ := codec.Fixed(b[end+fixedSize:])
	if uint64(place) < uint64(len(letters)) || uint64(place) > uint64(end) {
		return nil, nil
	}
	return b[len(letters):place], b[place:end]
}

// Get is the entry of the key in the file b (K3).
func Get(b []byte, key string) (api.Entry, bool, api.Errno) {
	// The whole file is read: a fault beside what is sought makes it none, too.
	l, err := Parse(b)
	if err != api.OK {
		return api.Entry{}, false, err
	}
	at, is := entry.Find(l, key)
	if !is {
		return api.Entry{}, false, api.OK
	}
	return l[at], true, api.OK
}
