package meta

import (
	"slices"

	"lamella/api"
	"lamella/crc"
	"lamella/frame"
)

// Writer writes a row. A frame is made as soon as it is full, for the place of the next one, which refs tell, hangs on how long it is.
type Writer struct {
	sums   *crc.Table
	frames []byte // the full ones
	rest   []byte // what was added behind them, fewer bytes than a frame holds
}

// New has nothing; Add writes bytes behind, Done is the frames.
func New(t *crc.Table) *Writer { return &Writer{sums: t} }

func (w *Writer) Add(b []byte) int {
	ref := refOf(len(w.frames), len(w.rest))
	w.rest = append(w.rest, b...)
	for len(w.rest) >= api.Block {
		w.frames = append(w.frames, w.frameOf(w.rest[:api.Block])...)
		w.rest = w.rest[api.Block:]
	}
	return ref
}

func (w *Writer) Done() []byte {
	all := slices.Clone(w.frames)
	if len(w.rest) == 0 { // its frame would be a hole
		return all
	}
	return append(all, w.frameOf(w.rest)...)
}

// frameOf drops the error: there is none of so few bytes.
func (w *Writer) frameOf(b []byte) []byte {
	f, _ := frame.Put(w.sums, b)
	return f
}
