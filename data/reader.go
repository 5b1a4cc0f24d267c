package data

import (
	"lamella/api"
	"lamella/crc"
	"lamella/frame"
)

// Read reads a file's blocks, Walk passes them.
func Read(t *crc.Table, image []byte, start, size, off, n int) ([]byte, api.Errno) {
	if !maySize(size) || off < 0 || n < 0 {
		return nil, api.ErrArg
	}
	whole := wholeOf(size)
	if n == 0 || off >= whole { // no frame is needed, so that whatever stands at start is no fault
		return nil, api.OK
	}
	at, ok := pass(image, start, off/api.Block, len(image))
	if !ok {
		return nil, api.ErrIO
	}
	from := off % api.Block
	to := from + min(n, whole-off) // off and n together could wrap round
	var b []byte
	for len(b) < to {
		held, next, ok := take(t, image, at)
		if !ok {
			return nil, api.ErrIO
		}
		b, at = append(b, held[:]...), next
	}
	return b[from:to], api.OK
}

func Walk(image []byte, start, size, end int) (int, api.Errno) {
	if !maySize(size) {
		return 0, api.ErrArg
	}
	next, ok := pass(image, start, size/api.Block, end)
	if !ok {
		return 0, api.ErrCorrupt
	}
	return next, api.OK
}

func maySize(size int) bool { return size >= 0 && size <= api.MaxFile }

// pass is the place behind so many frames, from a place on; false, if one is none, or ends behind end.
func pass(image []byte, at, many, end int) (int, bool) {
	for range many {
		next, e := frame.Skip(image, at)
		if e != api.OK || next > end {
			return 0, false
		}
		at = next
	}
	return at, true
}

// take is a block that stands in an image, and the place behind it; false, if its frame is none, or has a payload but not a whole block.
func take(t *crc.Table, image []byte, at int) (b block, next int, ok bool) {
	held, next, e := frame.Take(t, image, at)
	if e != api.OK {
		return block{}, 0, false
	}
	if len(held) != 0 && len(held) != len(b) {
		return block{}, 0, false
	}
	copy(b[:], held) // a hole holds nothing, and leaves the noughts
	return b, next, true
}
