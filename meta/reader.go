package meta

import (
	"slices"

	"lamella/api"
	"lamella/crc"
	"lamella/frame"
)

// block is what a frame holds, and the place behind it.
type block struct {
	bytes []byte
	next  int
}

// Reader reads a row. It has a copy of the frames, for the caller may change the image between two calls of the reader.
type Reader struct {
	sums    *crc.Table
	opened  bool // false: from and to are no part of the image
	frames  []byte
	taken   map[int]block // by place: reads are short, and many of them need the same frame
	takenBy crc.Table
}

// Open reads frames of an image; Read reads bytes, Next passes a frame.
func Open(t *crc.Table, image []byte, from, to int) *Reader {
	if from < 0 || to > len(image) || from > to {
		return &Reader{}
	}
	return &Reader{
		sums:   t,
		opened: true,
		frames: slices.Clone(image[from:to]),
		taken:  map[int]block{},
	}
}

func (r *Reader) Read(ref, n int) ([]byte, int, api.Errno) {
	if ref < 0 || n < 0 {
		return nil, 0, api.ErrArg
	}
	if !r.opened {
		return nil, 0, api.ErrCorrupt
	}
	var b []byte
	for len(b) < n {
		part, next, ok := r.part(ref, n-len(b))
		if !ok {
			return nil, 0, api.ErrCorrupt
		}
		b, ref = append(b, part...), next
	}
	return b, ref, api.OK
}

func (r *Reader) Next(ref int) (int, api.Errno) {
	if _, _, e := r.Read(ref, 0); e != api.OK {
		return 0, e
	}
	place, _ := split(ref)
	next, e := frame.Skip(r.frames, place)
	if e != api.OK {
		return 0, e
	}
	return refOf(next, 0), api.OK
}

// part is what the frame of ref has of the n bytes (1 or more) from ref on, and the ref behind that: of a frame that is not full, but has no more, a ref of which there is no part. It is the reader's own, to be copied ahead of being handed out.
func (r *Reader) part(ref, n int) (part []byte, next int, ok bool) {
	place, number := split(ref)
	b, ok := r.take(place)
	if !ok || number >= len(b.bytes) { // of a hole, always
		return nil, 0, false
	}
	part = b.bytes[number:]
	part = part[:min(n, len(part))] // a sum with n could wrap round
	end := number + len(part)
	if end == api.Block {
		return part, refOf(b.next, 0), true
	}
	return part, refOf(place, end), true
}

// take is what frame.Take tells of a place, asked once for as long as the table stays: that is shared, and may have been changed.
func (r *Reader) take(place int) (block, bool) {
	if r.takenBy != *r.sums {
		clear(r.taken)
		r.takenBy = *r.sums
	}
	if b, ok := r.taken[place]; ok {
		return b, true
	}
	held, next, e := frame.Take(r.sums, r.frames, place)
	if e != api.OK {
		return block{}, false
	}
	b := block{held, next}
	r.taken[place] = b
	return b, true
}
