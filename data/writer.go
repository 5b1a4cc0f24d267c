package data

import (
	"slices"

	"lamella/api"
	"lamella/crc"
	"lamella/frame"
)

// Writer lays blocks down.
type Writer struct {
	sums   *crc.Table
	first  int
	laid   []byte
	starts map[string]int // by all frames of a file: where these stand; what Frame lays down is no file's
}

// New has nothing; Add lays a file's blocks down, Frame one frame, Done is all.
func New(t *crc.Table, first int) *Writer {
	return &Writer{sums: t, first: first, starts: map[string]int{}}
}

func (w *Writer) Add(b []byte) (start int, tail []byte) {
	whole := wholeOf(len(b))
	tail = slices.Clone(b[whole:])
	if whole == 0 {
		return 0, tail
	}
	frames := w.framesOf(b[:whole])
	start, ok := w.starts[string(frames)]
	if !ok {
		start = w.lay(frames)
		w.starts[string(frames)] = start
	}
	return start, tail
}

func (w *Writer) Frame(b []byte) int {
	f, e := frame.Put(w.sums, b)
	if e != api.OK { // of more bytes than a frame holds, which is not asked
		return 0
	}
	return w.lay(f)
}

func (w *Writer) Done() []byte { return slices.Clone(w.laid) }

// framesOf is of bytes that are whole blocks. It drops Put's error: there is none of so few bytes.
func (w *Writer) framesOf(b []byte) []byte {
	var frames []byte
	for part := range slices.Chunk(b, api.Block) {
		if block(part) == (block{}) {
			part = nil // Put of none is a hole, but of noughts it is not
		}
		f, _ := frame.Put(w.sums, part)
		frames = append(frames, f...)
	}
	return frames
}

// lay tells the place of what it lays down.
func (w *Writer) lay(frames []byte) int {
	place := w.first + len(w.laid)
	w.laid = append(w.laid, frames...)
	return place
}
