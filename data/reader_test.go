package data_test

import (
	"bytes"
	"math"
	"slices"
	"testing"

	"lamella/api"
	"lamella/crc"
	"lamella/data"
	"lamella/frame"
)

func reads(t *testing.T, why string, table *crc.Table, image []byte, start, size, off, n int, want []byte) {
	t.Helper()
	if b, e := data.Read(table, image, start, size, off, n); !bytes.Equal(b, want) || e != api.OK {
		t.Errorf("%s: Read(%d, %d, %d, %d): % x, %d, wanted % x", why, start, size, off, n, b, e, want)
	}
}

func readsNot(t *testing.T, why string, table *crc.Table, image []byte, start, size, off, n int, want api.Errno) {
	t.Helper()
	if b, e := data.Read(table, image, start, size, off, n); b != nil || e != want {
		t.Errorf("%s: Read(%d, %d, %d, %d): % x, %d, wanted %d", why, start, size, off, n, b, e, want)
	}
}

func walks(t *testing.T, why string, image []byte, start, size, end, want int) {
	t.Helper()
	if next, e := data.Walk(image, start, size, end); next != want || e != api.OK {
		t.Errorf("%s: Walk(%d, %d, %d): %d, %d, wanted %d", why, start, size, end, next, e, want)
	}
}

func walksNot(t *testing.T, why string, image []byte, start, size, end int, want api.Errno) {
	t.Helper()
	if next, e := data.Walk(image, start, size, end); next != 0 || e != want {
		t.Errorf("%s: Walk(%d, %d, %d): %d, %d, wanted %d", why, start, size, end, next, e, want)
	}
}

// slowRead is P12.2 byte by byte: for each byte the frames ahead of its own are passed anew.
func slowRead(table *crc.Table, image []byte, start, size, off, n int) ([]byte, api.Errno) {
	if size < 0 || off < 0 || n < 0 || size > 4096 {
		return nil, api.ErrArg
	}
	var out []byte
	for i := off; i < size/128*128 && i-off < n; i++ {
		at := start
		for range i / 128 {
			next, e := frame.Skip(image, at)
			if e != api.OK {
				return nil, api.ErrIO
			}
			at = next
		}
		held, _, e := frame.Take(table, image, at)
		switch {
		case e != api.OK || len(held) != 0 && len(held) != 128:
			return nil, api.ErrIO
		case len(held) == 0:
			out = append(out, 0)
		default:
			out = append(out, held[i%128])
		}
	}
	return out, api.OK
}

// slowWalk is P12.3 word by word.
func slowWalk(image []byte, start, size, end int) (int, api.Errno) {
	if size < 0 || size > 4096 {
		return 0, api.ErrArg
	}
	for left := size; left >= 128; left -= 128 {
		next, e := frame.Skip(image, start)
		if e != api.OK || next > end {
			return 0, api.ErrCorrupt
		}
		start = next
	}
	return start, api.OK
}

// readsAsAsked holds Read against P12.2, and tells what it answered.
func readsAsAsked(t *testing.T, why string, table *crc.Table, image []byte, start, size, off, n int) api.Errno {
	t.Helper()
	want, e := slowRead(table, image, start, size, off, n)
	if e == api.OK {
		reads(t, why, table, image, start, size, off, n, want)
	} else {
		readsNot(t, why, table, image, start, size, off, n, e)
	}
	return e
}

func walksAsAsked(t *testing.T, why string, image []byte, start, size, end int) api.Errno {
	t.Helper()
	want, e := slowWalk(image, start, size, end)
	if e == api.OK {
		walks(t, why, image, start, size, end, want)
	} else {
		walksNot(t, why, image, start, size, end, e)
	}
	return e
}

func wrongSizes() []int {
	return []int{math.MinInt, math.MinInt + 1, -4096, -129, -128, -127, -1, 4097, 4098, 4224, 1 << 20, 1 << 32, math.MaxInt - 1, math.MaxInt}
}

func belowNought() []int {
	return []int{-1, -2, -127, -128, -129, -1 << 32, math.MinInt + 1, math.MinInt}
}

// P12.2: arguments.

// TestReadOfWrongArguments: ErrArg stands ahead of ErrIO, and is told also where no byte would be read.
func TestReadOfWrongArguments(t *testing.T) {
	table := newTable()
	image, _ := framesOf(table, rising(4096))
	turned := slices.Clone(image)
	turned[0] ^= 1
	for _, image := range [][]byte{image, turned, nil} {
		for _, start := range []int{0, 5, -1, len(image), math.MaxInt, math.MinInt} {
			for _, x := range []int{0, 1, 128, 4096, 5000, math.MaxInt} {
				for _, size := range wrongSizes() {
					readsNot(t, "a size", table, image, start, size, x, 1, api.ErrArg)
					readsNot(t, "a size", table, image, start, size, 0, x, api.ErrArg)
				}
				for _, below := range belowNought() {
					readsNot(t, "an off", table, image, start, 4096, below, x, api.ErrArg)
					readsNot(t, "an n", table, image, start, 4096, x, below, api.ErrArg)
					readsNot(t, "an off, of no blocks", table, image, start, 0, below, x, api.ErrArg)
					readsNot(t, "an n, of no blocks", table, image, start, 127, x, below, api.ErrArg)
				}
			}
			for _, below := range belowNought() {
				readsNot(t, "both", table, image, start, 4096, below, below, api.ErrArg)
				readsNot(t, "all", table, image, start, below, below, below, api.ErrArg)
			}
		}
	}
}

// P12.2: what is read.

func TestReadTable(t *testing.T) {
	table := newTable()
	file := slices.Concat(rising(128), make([]byte, 128), letters("a"), []byte("tail"))
	frames, _ := framesOf(table, file)
	image := slices.Concat(mixed(1, 64, 255), frames, mixed(2, 100, 255))
	for _, x := range []struct {
		why                    string
		size, off, n, from, to int
	}{
		{"all", 388, 0, 384, 0, 384},
		{"all, and the tail, which is not among it", 388, 0, 388, 0, 384},
		{"all, and more", 388, 0, 4096, 0, 384},
		{"as many as there can be", 388, 0, math.MaxInt, 0, 384},
		{"of a file without tail", 384, 0, math.MaxInt, 0, 384},
		{"of a file with the longest tail", 511, 0, math.MaxInt, 0, 384},
		{"of a file that is one byte shorter", 383, 0, math.MaxInt, 0, 256},
		{"of two blocks", 256, 0, math.MaxInt, 0, 256},
		{"of one block", 129, 0, math.MaxInt, 0, 128},
		{"of just one block", 128, 0, math.MaxInt, 0, 128},
		{"of no block", 127, 0, math.MaxInt, 0, 0},
		{"of one byte", 1, 0, 1, 0, 0},
		{"of none", 0, 0, math.MaxInt, 0, 0},
		{"the first byte", 388, 0, 1, 0, 1},
		{"within the first block", 388, 3, 9, 3, 12},
		{"up to its last but one", 388, 0, 127, 0, 127},
		{"just the first block", 388, 0, 128, 0, 128},
		{"one further", 388, 0, 129, 0, 129},
		{"its last byte", 388, 127, 1, 127, 128},
		{"its last byte, and one", 388, 127, 2, 127, 129},
		{"the hole", 388, 128, 128, 128, 256},
		{"within the hole", 388, 200, 9, 200, 209},
		{"over the hole", 388, 127, 130, 127, 257},
		{"from within the hole on", 388, 255, 300, 255, 384},
		{"the last byte", 388, 383, 1, 383, 384},
		{"the last byte, and the tail", 388, 383, 5, 383, 384},
		{"from its midst on, as many as there can be", 388, 100, math.MaxInt, 100, 384},
		{"at the blocks' end", 388, 384, 4, 0, 0},
		{"within the tail", 388, 386, 1, 0, 0},
		{"at the tail's end", 388, 388, 1, 0, 0},
		{"behind it", 388, 389, 1, 0, 0},
		{"far behind", 388, 1 << 40, 1 << 40, 0, 0},
		{"as far as can be", 388, math.MaxInt, 1, 0, 0},
		{"as far and as many as can be", 388, math.MaxInt, math.MaxInt, 0, 0},
		{"no bytes", 388, 5, 0, 0, 0},
		{"no bytes, at the beginning", 388, 0, 0, 0, 0},
		{"no bytes, at the end", 388, 384, 0, 0, 0},
	} {
		for range 2 {
			reads(t, x.why, table, image, 64, x.size, x.off, x.n, file[x.from:x.to])
		}
	}
}

// TestReadOfTheGreatest: a file of MaxFile bytes is one; one of a byte more is none.
func TestReadOfTheGreatest(t *testing.T) {
	for _, table := range tables() {
		for _, file := range [][]byte{rising(4096), make([]byte, 4096), mixed(3, 4096, 2)} {
			image, _ := framesOf(table, append(file, rising(128)...))
			reads(t, "all", table, image, 0, 4096, 0, 4096, file)
			reads(t, "all, as many as can be", table, image, 0, 4096, 0, math.MaxInt, file)
			reads(t, "the last byte", table, image, 0, 4096, 4095, 2, file[4095:])
			reads(t, "behind it", table, image, 0, 4096, 4096, 1, nil)
			reads(t, "one fewer", table, image, 0, 4095, 0, 4096, file[:3968])
			readsNot(t, "one more", table, image, 0, 4097, 0, 1, api.ErrArg)
		}
	}
}

func TestReadOfEachOffAndEnd(t *testing.T) {
	table := newTable()
	file := slices.Concat(letters("a"), make([]byte, 128), mixed(5, 128, 255), []byte("tail"))
	image, _ := framesOf(table, file)
	for off := range 390 {
		for end := off; end < 390; end++ {
			reads(t, "from an off to an end", table, image, 0, len(file), off, end-off, file[min(off, 384):min(end, 384)])
		}
	}
}

// TestReadOfEachSize: the size alone tells how many blocks there are.
func TestReadOfEachSize(t *testing.T) {
	table := newTable()
	file := mixed(6, 4096, 4)
	image, _ := framesOf(table, file)
	for size := range 4097 {
		reads(t, "the last block", table, image, 0, size, max(size/128*128-1, 0), 9, file[max(size/128*128-1, 0):size/128*128])
	}
}

// P12.2: starts.

func starts(image []byte) []int {
	n := len(image)
	return []int{math.MinInt, math.MinInt + 3, -1 << 32, -135, -3, -2, -1, n - 2, n - 1, n, n + 1, n + 3, n + 135, 1 << 20, 1 << 32, math.MaxInt - 135, math.MaxInt - 3, math.MaxInt - 2, math.MaxInt - 1, math.MaxInt}
}

func TestStartsThatAreNone(t *testing.T) {
	table := newTable()
	full, _ := framesOf(table, rising(384))
	for _, image := range [][]byte{nil, {}, {0}, {0, 0}, full} {
		for _, start := range starts(image) {
			for _, size := range []int{128, 129, 384, 4096} {
				readsNot(t, "no start", table, image, start, size, 0, 1, api.ErrIO)
				readsNot(t, "no start", table, image, start, size, 127, math.MaxInt, api.ErrIO)
				readsNot(t, "no start", table, image, start, size, size/128*128-1, 1, api.ErrIO)
				for _, end := range []int{start, 0, len(image), math.MaxInt} {
					walksNot(t, "no start", image, start, size, end, api.ErrCorrupt)
				}
				reads(t, "no start, no bytes", table, image, start, size, 0, 0, nil)
				reads(t, "no start, behind the blocks", table, image, start, size, size/128*128, 1, nil)
			}
			for _, size := range []int{0, 1, 127} {
				reads(t, "no start, no blocks", table, image, start, size, 0, 128, nil)
				for _, end := range []int{math.MinInt, -1, 0, 1, len(image), math.MaxInt} {
					walks(t, "no start, no blocks", image, start, size, end, start)
				}
			}
		}
	}
}

// TestReadBehindTheImagesEnd: the rest of the frames stands in the spare room, which is not looked at.
func TestReadBehindTheImagesEnd(t *testing.T) {
	table := newTable()
	for _, file := range [][]byte{slices.Concat(letters("a"), make([]byte, 128), rising(128)), rising(384), make([]byte, 384)} {
		image, _ := framesOf(table, file)
		ends := []int{0}
		for b := file; len(b) > 0; b = b[128:] {
			ends = append(ends, ends[len(ends)-1]+len(frameOf(table, b[:128])))
		}
		for cut := range image {
			for _, part := range [][]byte{image[:cut], slices.Clip(image[:cut])} {
				for i := range 3 {
					whole := ends[i+1] <= cut
					if whole {
						reads(t, "not cut", table, part, 0, 384, 0, 128*(i+1), file[:128*(i+1)])
						reads(t, "not cut", table, part, 0, 384, 128*i, 128, file[128*i:128*(i+1)])
						walks(t, "not cut", part, 0, 128*(i+1), math.MaxInt, ends[i+1])
					} else {
						readsNot(t, "cut", table, part, 0, 384, 0, 128*i+1, api.ErrIO)
						readsNot(t, "cut", table, part, 0, 384, 128*i, 1, api.ErrIO)
						walksNot(t, "cut", part, 0, 128*(i+1), math.MaxInt, api.ErrCorrupt)
					}
				}
			}
		}
	}
}

// P12.2: frames.

// TestFramesThatHoldFewer: such a one is passed where it stands ahead or behind, and is no block where it is needed; a hole is.
func TestFramesThatHoldFewer(t *testing.T) {
	table := newTable()
	a, c := letters("a"), rising(128)
	for n := range 129 {
		for _, held := range [][]byte{make([]byte, n), rising(n), mixed(1, n, 2)} {
			image, _ := layout(table, a, held, c)
			want := slices.Concat(a, held, c)
			if n == 0 {
				want = slices.Concat(a, make([]byte, 128), c)
			}
			reads(t, "the one ahead of it", table, image, 0, 384, 0, 128, a)
			reads(t, "the one behind it", table, image, 0, 384, 256, 128, c)
			for _, x := range [][2]int{{128, 1}, {128, 128}, {255, 1}, {127, 2}, {255, 2}, {0, 384}, {0, math.MaxInt}, {5, 300}} {
				if n == 0 || n == 128 {
					reads(t, "just so many", table, image, 0, 384, x[0], x[1], want[x[0]:min(384, x[0]+min(x[1], 384))])
				} else {
					readsNot(t, "fewer", table, image, 0, 384, x[0], x[1], api.ErrIO)
				}
			}
			walks(t, "fewer", image, 0, 384, len(image), len(image))
		}
	}
}

// TestTurnedBytes: each byte of three frames. Ahead of what is needed a wrong sum or payload is passed, a wrong head is not; behind it nothing is looked at.
func TestTurnedBytes(t *testing.T) {
	table := newTable()
	file := slices.Concat(letters("a"), rising(128), make([]byte, 128), letters("b"))
	image, places := layout(table, letters("a"), rising(128), nil, letters("b"))
	places = append(places, len(image))
	for at := range image {
		for _, by := range []byte{1, 2, 64, 128, 255} {
			turned := slices.Clone(image)
			turned[at] ^= by
			i := 3
			for places[i] > at {
				i--
			}
			readsTurned(t, table, turned, file, i, at-places[i] < 3)
		}
	}
}

// readsTurned is of an image whose frame i has a turned byte, in its head or behind it.
func readsTurned(t *testing.T, table *crc.Table, image, file []byte, i int, head bool) {
	t.Helper()
	for k := range 4 {
		from, to := 128*k, 128*(k+1)
		if k < i || k > i && !head {
			reads(t, "not the turned one", table, image, 0, 512, from, 128, file[from:to])
			reads(t, "not the turned one", table, image, 0, 512, to-1, 1, file[to-1:to])
		} else {
			readsNot(t, "the turned one, or behind a turned head", table, image, 0, 512, from, 128, api.ErrIO)
			readsNot(t, "the turned one, or behind a turned head", table, image, 0, 512, to-1, 1, api.ErrIO)
		}
		if k < i {
			reads(t, "up to the turned one", table, image, 0, 512, 0, to, file[:to])
		} else {
			readsNot(t, "over the turned one", table, image, 0, 512, 0, 128*i+1, api.ErrIO)
			readsNot(t, "over the turned one", table, image, 0, 512, 0, to, api.ErrIO)
		}
		reads(t, "no bytes", table, image, 0, 512, from, 0, nil)
		if k >= i && head {
			walksNot(t, "a turned head", image, 0, to, math.MaxInt, api.ErrCorrupt)
		} else if next, e := data.Walk(image, 0, to, len(image)); next == 0 || e != api.OK {
			t.Errorf("Walk of %d blocks: %d, %d", k+1, next, e)
		}
	}
	reads(t, "behind the blocks", table, image, 0, 512, 512, 1, nil)
}

// TestReadOfUnpackedPayloads: sums that are right, over payloads which unpack to fewer or more than a block.
func TestReadOfUnpackedPayloads(t *testing.T) {
	table := newTable()
	for _, x := range []struct {
		why     string
		payload []byte
		holds   int // 0: it is no frame's
	}{
		{"128 bytes", []byte{0, 'a', 128 + 124, 0}, 128},
		{"127 bytes", []byte{0, 'a', 128 + 123, 0}, 127},
		{"129 bytes", []byte{0, 'a', 128 + 125, 0}, 0},
		{"one byte", []byte{0, 'a'}, 1},
		{"no tokens", []byte{1, 'a'}, 0},
		{"a copy ahead of the first byte", []byte{128, 0}, 0},
	} {
		sum := table.Sum(x.payload)
		f := []byte{byte(len(x.payload)), 0, 255 - byte(len(x.payload)), byte(sum), byte(sum >> 8), byte(sum >> 16), byte(sum >> 24)}
		image := slices.Concat(f, x.payload, frameOf(table, letters("b")))
		if x.holds == 128 {
			reads(t, x.why, table, image, 0, 256, 0, 256, letters("ab"))
		} else {
			readsNot(t, x.why, table, image, 0, 256, 0, 1, api.ErrIO)
			readsNot(t, x.why, table, image, 0, 256, 127, 9, api.ErrIO)
		}
		reads(t, x.why+", behind it", table, image, 0, 256, 128, 128, letters("b"))
		walks(t, x.why, image, 0, 256, len(image), len(image))
	}
}

func TestReadByATable(t *testing.T) {
	file := letters("a\x00b")
	for i, table := range tables() {
		image, _ := framesOf(table, file)
		for k, other := range tables() {
			if i == k {
				reads(t, "its table", other, image, 0, 384, 0, 384, file)
			} else {
				readsNot(t, "another table", other, image, 0, 384, 0, 384, api.ErrIO)
				readsNot(t, "another table, behind", other, image, 0, 384, 256, 1, api.ErrIO)
			}
			reads(t, "a hole has no sum", other, image, 0, 384, 128, 128, make([]byte, 128))
		}
	}
	reads(t, "without a table, what needs no frame", nil, nil, 0, 384, 384, 1, nil)
}

// P12.3.

func TestWalkOfWrongArguments(t *testing.T) {
	image, _ := framesOf(newTable(), rising(4096+128))
	for _, image := range [][]byte{image, nil, {1, 2, 3}} {
		for _, start := range []int{0, 1, -1, len(image), math.MaxInt, math.MinInt} {
			for _, end := range []int{0, -1, len(image), math.MaxInt, math.MinInt} {
				for _, size := range wrongSizes() {
					walksNot(t, "a size", image, start, size, end, api.ErrArg)
				}
			}
		}
	}
}

func TestWalkTable(t *testing.T) {
	frames, places := layout(newTable(), letters("a"), nil, rising(128), []byte("short"), make([]byte, 128))
	places = append(places, len(frames))
	for _, ahead := range []int{0, 1, 64} {
		image := slices.Concat(mixed(1, ahead, 255), frames, mixed(2, 50, 255))
		for size := range 768 {
			last := ahead + places[size/128]
			for _, end := range []int{last, last + 1, len(image), len(image) + 1, 1 << 20, math.MaxInt} {
				walks(t, "an end behind the last one", image, ahead, size, end, last)
			}
			for _, end := range []int{last - 1, last - 2, ahead, 0, -1, -128, math.MinInt} {
				if size < 128 {
					walks(t, "no blocks, whatever the end", image, ahead, size, end, ahead)
				} else if end < last {
					walksNot(t, "an end ahead of the last one's", image, ahead, size, end, api.ErrCorrupt)
				}
			}
		}
		walksNot(t, "more blocks than there are", image, ahead, 768, math.MaxInt, api.ErrCorrupt)
		walksNot(t, "far more", image, ahead, 4096, math.MaxInt, api.ErrCorrupt)
	}
}

// TestWalkOfTheGreatest: 32 blocks, which are passed all of them.
func TestWalkOfTheGreatest(t *testing.T) {
	image, _ := framesOf(newTable(), rising(4096+128))
	for _, x := range [][2]int{{4096, 4320}, {4095, 4185}, {3968, 4185}, {3967, 4050}} {
		walks(t, "a size", image, 0, x[0], x[1], x[1])
		walks(t, "a size, all of the image", image, 0, x[0], len(image), x[1])
		walksNot(t, "a size, one fewer", image, 0, x[0], x[1]-1, api.ErrCorrupt)
	}
	holes := bytes.Repeat([]byte{0, 0, 255}, 32)
	walks(t, "holes", holes, 0, 4096, 96, 96)
	walksNot(t, "holes, one fewer", holes, 0, 4096, 95, api.ErrCorrupt)
	walksNot(t, "holes, one missing", holes[:95], 0, 4096, 96, api.ErrCorrupt)
}

// Any bytes.

// TestAnyImages holds Read and Walk against P12.2 and P12.3 over images of frames of all kinds, with bytes turned, from each place on.
func TestAnyImages(t *testing.T) {
	table := newTable()
	told := map[api.Errno]int{}
	for seed := range uint32(40) {
		image := anyImage(table, seed)
		for start := -1; start <= len(image); start++ {
			_, e := frame.Skip(image, start)
			if e != api.OK && start%7 != 0 {
				continue // most places are none's: a few of them will do
			}
			for _, size := range []int{0, 127, 128, 256, 300, 700} {
				for _, off := range []int{0, 1, 127, 128, 200, 383, 640} {
					for _, n := range []int{0, 1, 128, 129, 1000} {
						told[readsAsAsked(t, "any image", table, image, start, size, off, n)]++
					}
				}
				for _, end := range []int{start, start + 3, start + 11, start + 22, start + 135, len(image) / 2, len(image)} {
					told[walksAsAsked(t, "any image", image, start, size, end)]++
				}
			}
		}
	}
	if told[api.OK] == 0 || told[api.ErrIO] == 0 || told[api.ErrCorrupt] == 0 {
		t.Errorf("not all of it was met: %v", told)
	}
}

// anyImage is frames of blocks, of fewer bytes and of none, of which a byte or two are turned.
func anyImage(table *crc.Table, seed uint32) []byte {
	choice := mixed(seed, 12, 8)
	var image []byte
	for i, c := range choice[:9] {
		switch {
		case c < 3:
			image = append(image, 0, 0, 255)
		case c < 5:
			image = append(image, frameOf(table, letters(string(rune('a'+i))))...)
		case c < 7:
			image = append(image, frameOf(table, rising(128))...)
		default:
			image = append(image, frameOf(table, rising(1+i*13))...)
		}
	}
	for k := range int(seed % 3) {
		image[(int(choice[9+k])*37+int(seed)*11+k*101)%len(image)] ^= 1 << (seed % 8)
	}
	return image
}
