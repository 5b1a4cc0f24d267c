package data_test

import (
	"bytes"
	"math"
	"slices"
	"testing"

	"lamella/api"
	"lamella/crc"
	"lamella/data"
	"lamella/frame"
)

// mixed is n bytes of an alphabet of so many letters, the same ones in each run of the tests; none of them is a nought, so that no block is a hole.
func mixed(seed uint32, n, letters int) []byte {
	b := make([]byte, n)
	for i := range b {
		seed = seed*1664525 + 1013904223
		b[i] = byte(1 + int(seed>>16)%letters)
	}
	return b
}

// rising is n bytes whose blocks pack to more, so that their frames are stored: each has 135 bytes.
func rising(n int) []byte {
	b := make([]byte, n)
	for i := range b {
		b[i] = byte(i)
	}
	return b
}

// letters is a block of each letter; each packs to 4 bytes, so that its frame has 11.
func letters(s string) []byte {
	var b []byte
	for i := range len(s) {
		b = append(b, bytes.Repeat([]byte{s[i]}, 128)...)
	}
	return b
}

func newTable() *crc.Table {
	t := crc.New()
	return &t
}

// strange is a table of no rule.
func strange() *crc.Table {
	var t crc.Table
	for i := range t {
		t[i] = uint32(i)*2654435761 ^ 0x9e3779b9
	}
	return &t
}

func tables() []*crc.Table { return []*crc.Table{newTable(), strange(), {}} }

// frameOf is a block's frame by the chapter's words: a hole, if it is noughts alone.
func frameOf(table *crc.Table, b []byte) []byte {
	if len(b) == 128 && bytes.Count(b, []byte{0}) == 128 {
		return []byte{0, 0, 255}
	}
	f, e := frame.Put(table, b)
	if e != api.OK {
		panic("no frame of so many bytes")
	}
	return f
}

// framesOf are the frames of a file's blocks, and what is left of it.
func framesOf(table *crc.Table, b []byte) (frames, tail []byte) {
	for ; len(b) >= 128; b = b[128:] {
		frames = append(frames, frameOf(table, b[:128])...)
	}
	return frames, b
}

// layout is frames of blocks of any size (of none, a hole), one behind the other, and where each begins.
func layout(table *crc.Table, blocks ...[]byte) (frames []byte, places []int) {
	for _, b := range blocks {
		places = append(places, len(frames))
		f, e := frame.Put(table, b)
		if e != api.OK {
			panic("no frame of so many bytes")
		}
		frames = append(frames, f...)
	}
	return frames, places
}

// files are bytes of all lengths at which something turns, of which some pack well, some do not, and some are holes.
func files() [][]byte {
	var all [][]byte
	for _, n := range []int{0, 1, 2, 127, 128, 129, 255, 256, 257, 383, 384, 385, 1000, 4095, 4096} {
		all = append(all, make([]byte, n), rising(n), mixed(uint32(n), n, 2), mixed(uint32(n), n, 255))
		gaps := mixed(uint32(n), n, 9)
		for from := 128; from < n; from += 256 {
			clear(gaps[from:min(from+128, n)])
		}
		all = append(all, gaps)
	}
	return all
}

func TestExampleOfTheChapter(t *testing.T) {
	w := data.New(newTable(), 64)
	adds(t, "130 times a", w, bytes.Repeat([]byte("a"), 130), 64, "aa")
	behind := 64 + len(w.Done())
	adds(t, "128 times a", w, letters("a"), 64, "")
	adds(t, "128 noughts", w, make([]byte, 128), behind, "")
	adds(t, "a", w, []byte("a"), 0, "a")
	if want := append(frameOf(newTable(), letters("a")), 0, 0, 255); !bytes.Equal(w.Done(), want) || behind != 64+11 {
		t.Errorf("Done: % x, wanted % x", w.Done(), want)
	}
}

// P12.4.

// TestWhatWasAddedIsRead: one file behind the other, twice, with frames of others between them; whole, and in parts.
func TestWhatWasAddedIsRead(t *testing.T) {
	for _, table := range tables() {
		for _, first := range []int{0, 1, 64, 1000} {
			w := data.New(table, first)
			var starts, ends []int
			all := append(files(), files()...)
			for i, b := range all {
				start, tail := w.Add(b)
				if !bytes.Equal(tail, b[len(b)/128*128:]) {
					t.Fatalf("file %d: tail % x", i, tail)
				}
				starts = append(starts, start)
				ends = append(ends, first+len(w.Done()))
				if i%3 == 0 {
					w.Frame([]byte{byte(i)})
				}
			}
			image := append(mixed(1, first, 255), w.Done()...)
			for i, b := range all {
				readsFile(t, table, image, starts[i], b)
				walksFile(t, table, image, starts[i], b, ends[i])
			}
		}
	}
}

// readsFile holds Read of a file's blocks against the file itself.
func readsFile(t *testing.T, table *crc.Table, image []byte, start int, b []byte) {
	t.Helper()
	whole := b[:len(b)/128*128]
	for _, off := range []int{0, 1, 100, 127, 128, 129, 300, len(whole) - 128, len(whole) - 1, len(whole), len(b)} {
		for _, n := range []int{0, 1, 27, 28, 29, 128, 129, 256, 4096, math.MaxInt} {
			if off < 0 {
				continue
			}
			var want []byte
			for i := off; i < len(whole) && i-off < n; i++ {
				want = append(want, whole[i])
			}
			reads(t, "what was added", table, image, start, len(b), off, n, want)
		}
	}
}

// walksFile: the frames of a file that was added end where all that was laid down ended then, or, if they were there, ahead of it.
func walksFile(t *testing.T, table *crc.Table, image []byte, start int, b []byte, end int) {
	t.Helper()
	frames, _ := framesOf(table, b)
	walks(t, "what was added", image, start, len(b), end, start+len(frames))
	if len(frames) > 0 {
		walksNot(t, "what was added, one fewer", image, start, len(b), start+len(frames)-1, api.ErrCorrupt)
	}
}

// TestSameBlocksAreThereOnce: each of the files again, in the other order, and without its tail.
func TestSameBlocksAreThereOnce(t *testing.T) {
	w := data.New(newTable(), 64)
	all := files()
	var starts []int
	for _, b := range all {
		start, _ := w.Add(b)
		starts = append(starts, start)
	}
	done := w.Done()
	for i, b := range slices.Backward(all) {
		adds(t, "again", w, b, starts[i], string(b[len(b)/128*128:]))
		adds(t, "without its tail", w, b[:len(b)/128*128], starts[i], "")
		if len(b) >= 128 && len(b)%128 == 0 {
			adds(t, "with a tail", w, append(slices.Clone(b), "tail"...), starts[i], "tail")
		}
	}
	if !bytes.Equal(w.Done(), done) {
		t.Errorf("%d bytes, wanted %d", len(w.Done()), len(done))
	}
}

// R6, R7.

func TestWhatIsHandedInStays(t *testing.T) {
	table := newTable()
	room := slices.Concat(mixed(1, 50, 255), letters("ab"), make([]byte, 128), []byte("tail"), mixed(2, 300, 255))
	before := slices.Clone(room)
	w := data.New(table, 64)
	for range 2 {
		w.Add(room[50 : 50+388])
		w.Add(room[50 : 50+384])
		w.Add(room[50:60])
		w.Add(room[50:50])
		w.Frame(room[50 : 50+128])
		w.Frame(room[50:51])
		w.Done()
	}
	if !bytes.Equal(room, before) {
		t.Error("Add or Frame changed what was handed in, or its spare room")
	}
	image := slices.Concat(mixed(3, 64, 255), w.Done(), mixed(4, 200, 255))
	imageBefore := slices.Clone(image)
	part := image[:len(image)-200]
	for _, off := range []int{0, 100, 200, 300, 384, 388, -1} {
		for _, n := range []int{-1, 0, 1, 100, 388} {
			data.Read(table, part, 64, 388, off, n)
			data.Read(table, part, 65, 388, off, n)
			data.Walk(part, 64, 388, 64+n)
		}
	}
	if !bytes.Equal(image, imageBefore) || *table != crc.New() {
		t.Error("Read or Walk changed the image, its spare room, or the table of sums")
	}
}

// TestNothingIsKept: what is written later into what was handed in, or into a tail, or into what Done answered, is not seen.
func TestNothingIsKept(t *testing.T) {
	file := slices.Concat(letters("a"), rising(128), make([]byte, 128), []byte("tail"))
	want, _ := framesOf(newTable(), file)
	w := data.New(newTable(), 64)
	in := append(make([]byte, 0, 600), file...)
	_, tail := w.Add(in)
	one := []byte("one")
	w.Frame(one)
	want = append(want, frameOf(newTable(), one)...)
	first := w.Done()

	overwrite(one)
	overwrite(tail)
	if string(in) != string(file) {
		t.Error("a tail shares bytes with what was handed in")
	}
	_, tail = w.Add(in)
	overwrite(in)
	if string(tail) != "tail" {
		t.Errorf("what was handed in shares bytes with a tail: % x", tail)
	}
	if !bytes.Equal(first, want) || !bytes.Equal(w.Done(), want) {
		t.Error("what is written into what was handed in is seen")
	}
	second := w.Done()
	overwrite(first)
	if !bytes.Equal(second, want) || !bytes.Equal(w.Done(), want) {
		t.Error("what is written into what Done answered is seen")
	}
	adds(t, "again", w, file, 64, "tail")
	adds(t, "others", w, bytes.Repeat([]byte{0xee}, 128), 64+len(want), "")
	if !bytes.Equal(second, want) {
		t.Error("what is added later is seen in what Done answered")
	}
}

// overwrite is of bytes and their spare room.
func overwrite(b []byte) {
	b = b[:cap(b)]
	for i := range b {
		b[i] = 0xdd
	}
}

func TestReadIsTheCallersOwn(t *testing.T) {
	table := newTable()
	file := slices.Concat(rising(128), make([]byte, 128), letters("a"))
	image, _ := framesOf(table, file)
	before := slices.Clone(image)
	one, _ := data.Read(table, image, 0, 384, 10, 300)
	two, _ := data.Read(table, image, 0, 384, 10, 300)
	stored, _ := data.Read(table, image, 0, 384, 0, 128)
	overwrite(one)
	overwrite(stored)
	if !bytes.Equal(image, before) || !bytes.Equal(two, file[10:310]) {
		t.Error("what Read answered shares bytes with the image, or with another answer")
	}
	overwrite(image)
	if !bytes.Equal(two, file[10:310]) {
		t.Error("what Read answered shares bytes with the image")
	}
	reads(t, "behind all of it", table, before, 0, 384, 10, 300, file[10:310])
}

func TestWritersGoTheirOwnWays(t *testing.T) {
	table := newTable()
	v, w := data.New(table, 64), data.New(table, 7)
	adds(t, "one", v, letters("ab"), 64, "")
	adds(t, "the other", w, letters("c"), 7, "")
	adds(t, "the other, what the one has", w, letters("ab"), 18, "")
	adds(t, "one, what the other has", v, letters("c"), 86, "")
	if !bytes.Equal(v.Done(), slices.Concat(frameOf(table, letters("a")), frameOf(table, letters("b")), frameOf(table, letters("c")))) {
		t.Errorf("% x", v.Done())
	}
	if !bytes.Equal(w.Done(), slices.Concat(frameOf(table, letters("c")), frameOf(table, letters("a")), frameOf(table, letters("b")))) {
		t.Errorf("% x", w.Done())
	}
}

// TestTableIsShared: the sums are by what the table is then, and frames are the same only if their sums are.
func TestTableIsShared(t *testing.T) {
	table := newTable()
	w := data.New(table, 64)
	adds(t, "by New's", w, letters("a"), 64, "")
	*table = *strange()
	adds(t, "by another", w, letters("a"), 75, "")
	adds(t, "by another, again", w, letters("a"), 75, "")
	if at := w.Frame([]byte("f")); at != 86 {
		t.Errorf("Frame: %d", at)
	}
	*table = crc.New()
	adds(t, "by New's, again", w, letters("a"), 64, "")
	want := slices.Concat(frameOf(newTable(), letters("a")), frameOf(strange(), letters("a")), frameOf(strange(), []byte("f")))
	if !bytes.Equal(w.Done(), want) {
		t.Errorf("Done: % x, wanted % x", w.Done(), want)
	}
}
