package frag_test

import (
	"bytes"
	"math"
	"slices"
	"testing"

	"lamella/api"
	"lamella/crc"
	"lamella/frag"
	"lamella/frame"
)

func reads(t *testing.T, why string, table *crc.Table, image []byte, places []int, number, off, n int, want []byte) {
	t.Helper()
	if b, e := frag.Read(table, image, places, number, off, n); !bytes.Equal(b, want) || e != api.OK {
		t.Errorf("%s: Read(%d, %d, %d): % x, %d, wanted % x", why, number, off, n, b, e, want)
	}
}

func readsNot(t *testing.T, why string, table *crc.Table, image []byte, places []int, number, off, n int, want api.Errno) {
	t.Helper()
	if b, e := frag.Read(table, image, places, number, off, n); b != nil || e != want {
		t.Errorf("%s: Read(%d, %d, %d): % x, %d, wanted %d", why, number, off, n, b, e, want)
	}
}

// slowRead is P13.2 word by word, byte by byte.
func slowRead(table *crc.Table, image []byte, places []int, number, off, n int) ([]byte, api.Errno) {
	found := false
	place := 0
	for i, at := range places {
		if i+1 == number {
			found, place = true, at
		}
	}
	if !found || off < 0 || n < 0 {
		return nil, api.ErrArg
	}
	held, next, e := frame.Take(table, image, place)
	if e != api.OK || bytes.Equal(image[place:next], []byte{0, 0, 255}) || off > len(held) {
		return nil, api.ErrIO
	}
	var b []byte
	for i := off; len(b) < n; i++ {
		if i >= len(held) {
			return nil, api.ErrIO
		}
		b = append(b, held[i])
	}
	return b, api.OK
}

func readsAsAsked(t *testing.T, why string, table *crc.Table, image []byte, places []int, number, off, n int) api.Errno {
	t.Helper()
	want, e := slowRead(table, image, places, number, off, n)
	if e == api.OK {
		reads(t, why, table, image, places, number, off, n, want)
	} else {
		readsNot(t, why, table, image, places, number, off, n, e)
	}
	return e
}

// numbers are ints at which something may turn: of a number, an off or an n.
func numbers() []int {
	return []int{math.MinInt, math.MinInt + 1, -1 << 32, -129, -128, -2, -1, 0, 1, 2, 3, 4, 5, 27, 28, 29, 63, 64, 65, 99, 100, 101,
		126, 127, 128, 129, 255, 256, 1 << 20, 1 << 31, 1 << 32, 1<<32 + 1, 1 << 62, math.MaxInt - 128, math.MaxInt - 1, math.MaxInt}
}

// P13.2: ErrArg.

func TestReadOfNumbers(t *testing.T) {
	table := newTable()
	image, places := layout(table, 5, []byte("one"), []byte("two"), []byte("three"))
	for i, want := range []string{"one", "two", "three"} {
		reads(t, "a number", table, image, places, i+1, 0, len(want), []byte(want))
		reads(t, "a number, of as many places", table, image, places[:i+1], i+1, 0, len(want), []byte(want))
		readsNot(t, "a number, of one place fewer", table, image, places[:i], i+1, 0, len(want), api.ErrArg)
	}
	for _, number := range numbers() {
		if number < 1 || number > 3 {
			readsNot(t, "no number", table, image, places, number, 0, 1, api.ErrArg)
			readsNot(t, "no number, no bytes", table, image, places, number, 0, 0, api.ErrArg)
		}
		readsNot(t, "no places", table, image, nil, number, 0, 1, api.ErrArg)
		readsNot(t, "no places", table, image, []int{}, number, 0, 0, api.ErrArg)
		readsNot(t, "places behind the end", table, image, places[:0], number, 0, 0, api.ErrArg)
		readsNot(t, "no places, no image", table, nil, nil, number, 0, 0, api.ErrArg)
	}
}

// TestReadOfWrongArguments: each of number, off and n wrong, alone and with the others, of frames that are and that are none.
func TestReadOfWrongArguments(t *testing.T) {
	table := newTable()
	image, places := layout(table, 5, rising(128), nil, spelt("100a"))
	wrong := []int{-1, -2, -128, math.MinInt}
	for _, image := range [][]byte{image, image[:50], nil} {
		for _, places := range [][]int{places, {0, 1, 2}, {-1, math.MaxInt, math.MinInt}} {
			for _, other := range []int{0, 1, 128, 129, math.MaxInt} {
				for _, w := range wrong {
					for number := 1; number <= 3; number++ {
						readsNot(t, "an off", table, image, places, number, w, other, api.ErrArg)
						readsNot(t, "an n", table, image, places, number, other, w, api.ErrArg)
						readsNot(t, "both", table, image, places, number, w, w, api.ErrArg)
					}
					for _, number := range []int{0, -1, 4, math.MaxInt, math.MinInt} {
						readsNot(t, "a number", table, image, places, number, 0, other, api.ErrArg)
						readsNot(t, "a number, an off", table, image, places, number, w, other, api.ErrArg)
						readsNot(t, "a number, an n", table, image, places, number, other, w, api.ErrArg)
						readsNot(t, "all", table, image, places, number, w, w, api.ErrArg)
					}
				}
			}
		}
	}
	readsNot(t, "without a table", nil, image, places, 0, 0, 1, api.ErrArg)
	readsNot(t, "without a table, an off", nil, image, places, 1, -1, 1, api.ErrArg)
	readsNot(t, "without a table, a hole", nil, image, places, 2, 0, 0, api.ErrIO)
}

// P13.2: off and n.

// TestReadOfParts: each off and each n, of blocks of each size, stored and packed.
func TestReadOfParts(t *testing.T) {
	table := newTable()
	for _, size := range []int{1, 2, 3, 28, 64, 100, 127, 128} {
		for _, b := range [][]byte{rising(size), mixed(1, size, 255), mixed(2, size, 2), make([]byte, size)} {
			image, places := layout(table, 3, []byte("ahead"), b, []byte("behind"))
			for off := range size + 3 {
				for n := range size + 3 {
					if off+n <= size {
						reads(t, "a part", table, image, places, 2, off, n, b[off:off+n])
					} else {
						readsNot(t, "more than it holds", table, image, places, 2, off, n, api.ErrIO)
					}
				}
			}
		}
	}
}

func TestReadTable(t *testing.T) {
	table := newTable()
	image, places := layout(table, 0, spelt("100a28b"), []byte("c"), rising(127))
	for _, x := range []struct {
		why            string
		number, off, n int
		want           string
		e              api.Errno
	}{
		{"all", 1, 0, 128, "100a28b", api.OK},
		{"the first tail", 1, 0, 100, "100a", api.OK},
		{"the second tail", 1, 100, 28, "28b", api.OK},
		{"over both", 1, 99, 2, "1a1b", api.OK},
		{"the last byte", 1, 127, 1, "1b", api.OK},
		{"none at the beginning", 1, 0, 0, "", api.OK},
		{"none in the midst", 1, 100, 0, "", api.OK},
		{"none at the end", 1, 128, 0, "", api.OK},
		{"none behind the end", 1, 129, 0, "", api.ErrIO},
		{"none far behind it", 1, 1 << 40, 0, "", api.ErrIO},
		{"none at the greatest", 1, math.MaxInt, 0, "", api.ErrIO},
		{"one at the end", 1, 128, 1, "", api.ErrIO},
		{"one too many", 1, 0, 129, "", api.ErrIO},
		{"one too many behind the first", 1, 100, 29, "", api.ErrIO},
		{"two at the last byte", 1, 127, 2, "", api.ErrIO},
		{"the greatest n", 1, 0, math.MaxInt, "", api.ErrIO},
		{"the greatest n at the end", 1, 128, math.MaxInt, "", api.ErrIO},
		{"a sum that is the least int", 1, 1, math.MaxInt, "", api.ErrIO},
		{"a sum that would be 0 of 64 bits", 1, math.MaxInt, math.MaxInt, "", api.ErrIO},
		{"a sum that would be below 0", 1, math.MaxInt, 1, "", api.ErrIO},
		{"halves of 2^64", 1, 1 << 62, 1 << 62, "", api.ErrIO},
		{"of 32 bits 0", 1, 1 << 32, 1, "", api.ErrIO},
		{"of 32 bits 0, n", 1, 0, 1 << 32, "", api.ErrIO},
		{"a block of one byte", 2, 0, 1, "1c", api.OK},
		{"none of it", 2, 0, 0, "", api.OK},
		{"none at its end", 2, 1, 0, "", api.OK},
		{"none behind its end", 2, 2, 0, "", api.ErrIO},
		{"two of it", 2, 0, 2, "", api.ErrIO},
		{"one at its end", 2, 1, 1, "", api.ErrIO},
		{"128 of 127", 3, 0, 128, "", api.ErrIO},
		{"128, where there are 127", 3, 128, 0, "", api.ErrIO},
		{"127, where there are 127", 3, 127, 0, "", api.OK},
		{"an off below 0", 1, -1, 1, "", api.ErrArg},
		{"an n below 0", 1, 1, -1, "", api.ErrArg},
		{"both, with a sum of 0", 1, 128, -128, "", api.ErrArg},
		{"both, with a sum of 128", 1, -128, 256, "", api.ErrArg},
		{"an off behind it, an n below 0", 1, 200, -1, "", api.ErrArg},
		{"the least", 1, math.MinInt, math.MinInt, "", api.ErrArg},
		{"the least and the greatest", 1, math.MinInt, math.MaxInt, "", api.ErrArg},
		{"the greatest and the least", 1, math.MaxInt, math.MinInt, "", api.ErrArg},
	} {
		if x.e == api.OK {
			reads(t, x.why, table, image, places, x.number, x.off, x.n, spelt(x.want))
		} else {
			readsNot(t, x.why, table, image, places, x.number, x.off, x.n, x.e)
		}
	}
}

// TestReadOfAllNumbers holds Read against P13.2 with numbers, offs and ns of all kinds, of blocks of all kinds.
func TestReadOfAllNumbers(t *testing.T) {
	table := newTable()
	image, places := layout(table, 1, rising(128), []byte("a"), nil, spelt("64a64b"), rising(100))
	places = append(places, -1, len(image), 0)
	told := map[api.Errno]int{}
	for _, number := range append(numbers(), 6, 7, 8, 9) {
		for _, off := range numbers() {
			for _, n := range numbers() {
				told[readsAsAsked(t, "all numbers", table, image, places, number, off, n)]++
			}
		}
	}
	if told[api.OK] == 0 || told[api.ErrIO] == 0 || told[api.ErrArg] == 0 {
		t.Errorf("not all of it was met: %v", told)
	}
}

// P13.2: frames and places.

func TestReadOfHoles(t *testing.T) {
	table := newTable()
	image, places := layout(table, 2, []byte("a"), nil, []byte("b"), nil)
	for _, number := range []int{2, 4} {
		for _, off := range []int{0, 1, 128, math.MaxInt} {
			for _, n := range []int{0, 1, 128, math.MaxInt} {
				readsNot(t, "a hole", table, image, places, number, off, n, api.ErrIO)
			}
		}
	}
	reads(t, "behind a hole", table, image, places, 3, 0, 1, []byte("b"))
	image, places = layout(table, 0, make([]byte, 128))
	reads(t, "noughts that are no hole", table, image, places, 1, 0, 128, make([]byte, 128))
}

// TestReadOfFrames: of each size, stored and packed, wherever the frame stands.
func TestReadOfFrames(t *testing.T) {
	for _, table := range tables() {
		for size := 1; size <= 128; size++ {
			for k, b := range [][]byte{rising(size), mixed(uint32(size), size, 2), make([]byte, size), mixed(uint32(size), size, 255)} {
				image, places := layout(table, k*41, b)
				reads(t, "at the image's end", table, image, places, 1, 0, size, b)
				readsNot(t, "one more", table, image, places, 1, 0, size+1, api.ErrIO)
				image = append(image, image...)
				reads(t, "not at its end", table, image, places, 1, 0, size, b)
				reads(t, "its end", table, image, places, 1, size-1, 1, b[size-1:])
			}
		}
	}
	stored, packed := frameOf(newTable(), rising(128)), frameOf(newTable(), make([]byte, 128))
	if len(stored) != 135 || stored[1] != 128 || len(packed) != 11 || packed[1] != 0 {
		t.Errorf("not stored and packed: % x, % x", stored[:3], packed[:3])
	}
}

func TestReadOfCutFrames(t *testing.T) {
	table := newTable()
	for _, b := range [][]byte{rising(128), spelt("100a28b"), []byte("c"), rising(50)} {
		image, places := layout(table, 9, b)
		for end := range image {
			for _, n := range []int{0, 1, len(b)} {
				readsNot(t, "cut", table, image[:end:end], places, 1, 0, n, api.ErrIO)
				readsNot(t, "cut, with room behind", table, image[:end], places, 1, 0, n, api.ErrIO)
			}
		}
		reads(t, "whole", table, image, places, 1, 0, len(b), b)
	}
}

// TestReadOfTurnedFrames: each byte of a few frames, turned in five ways; what stands beside a frame is no part of it.
func TestReadOfTurnedFrames(t *testing.T) {
	table := newTable()
	for _, b := range [][]byte{rising(128), spelt("100a28b"), []byte("c"), mixed(1, 90, 3)} {
		image, places := layout(table, 4, []byte("ahead"), b, []byte("behind"))
		for at := range image {
			for _, turn := range []byte{1, 2, 64, 128, 255} {
				turned := slices.Clone(image)
				turned[at] ^= turn
				if at < places[1] || at >= places[2] {
					reads(t, "turned beside it", table, turned, places, 2, 0, len(b), b)
					continue
				}
				readsNot(t, "turned", table, turned, places, 2, 0, len(b), api.ErrIO)
				readsNot(t, "turned, one byte", table, turned, places, 2, len(b)-1, 1, api.ErrIO)
				readsNot(t, "turned, no bytes", table, turned, places, 2, 0, 0, api.ErrIO)
			}
		}
	}
}

// TestReadOfWrongFrames: heads that no frame has, a packed payload that is none, and one of too many bytes, with sums that are right.
func TestReadOfWrongFrames(t *testing.T) {
	table := newTable()
	for _, x := range []struct {
		why     string
		number  int
		payload []byte
	}{
		{"stored, of none", 32768, nil},
		{"stored, of 129 bytes", 32768 + 129, rising(129)},
		{"packed, of 129 bytes", 129, rising(129)},
		{"packed, cut", 2, []byte{127, 'a'}},
		{"packed, a copy of nothing", 3, []byte{128, 0, 0}},
		{"packed, to 129 bytes", 4, []byte{0, 'a', 253, 0}},
		{"packed, to 130 bytes", 4, []byte{0, 'a', 254, 0}},
	} {
		sum := table.Sum(x.payload)
		low, high := byte(x.number), byte(x.number>>8)
		image := []byte{low, high, 255 - (low ^ high), byte(sum), byte(sum >> 8), byte(sum >> 16), byte(sum >> 24)}
		image = append(image, x.payload...)
		for _, n := range []int{0, 1, 128} {
			readsNot(t, x.why, table, image, []int{0}, 1, 0, n, api.ErrIO)
		}
	}
}

func TestReadOfPlaces(t *testing.T) {
	table := newTable()
	image, places := layout(table, 6, rising(128), []byte("a"), spelt("100b"))
	wrong := []int{-1, -2, -128, math.MinInt, math.MinInt + 1, 0, 5, 7, len(image) - 1, len(image), len(image) + 1, 1 << 32, math.MaxInt - 7, math.MaxInt - 1, math.MaxInt}
	for _, at := range wrong {
		for _, n := range []int{0, 1, 128} {
			readsNot(t, "a place", table, image, []int{at}, 1, 0, n, api.ErrIO)
			readsNot(t, "a place of no image", table, nil, []int{at}, 1, 0, n, api.ErrIO)
			readsNot(t, "a place between", table, image, []int{places[0], at, places[2]}, 2, 0, n, api.ErrIO)
		}
		mixedUp := []int{at, places[2], at, places[0], places[1], places[0], at}
		reads(t, "others beside it", table, image, mixedUp, 2, 0, 100, spelt("100b"))
		reads(t, "others beside it", table, image, mixedUp, 4, 0, 128, rising(128))
		reads(t, "others beside it", table, image, mixedUp, 5, 0, 1, []byte("a"))
		reads(t, "the same place twice", table, image, mixedUp, 6, 1, 100, rising(128)[1:101])
		readsNot(t, "the last", table, image, mixedUp, 7, 0, 0, api.ErrIO)
		readsNot(t, "behind the last", table, image, mixedUp, 8, 0, 0, api.ErrArg)
		readsNot(t, "a wrong place and no number", table, image, mixedUp, 0, 0, 0, api.ErrArg)
		readsNot(t, "a wrong place and an off", table, image, mixedUp, 1, -1, 0, api.ErrArg)
		readsNot(t, "a wrong place and an off behind all", table, image, mixedUp, 1, 129, 0, api.ErrIO)
	}
}

// TestReadWithinAnother: a place within another frame's payload, where a frame happens to stand, is one.
func TestReadWithinAnother(t *testing.T) {
	table := newTable()
	inner := frameOf(table, []byte("inner"))
	block := slices.Concat(rising(40), inner, rising(120)[60:]) // without a match, so that its frame is stored
	image, places := layout(table, 0, block)
	reads(t, "the outer one", table, image, places, 1, 0, len(block), block)
	reads(t, "the inner one", table, image, []int{7 + 40}, 1, 0, 5, []byte("inner"))
	readsNot(t, "more than the inner one", table, image, []int{7 + 40}, 1, 0, 6, api.ErrIO)
}

// TestReadOfTables: the sums are by the table that is handed in.
func TestReadOfTables(t *testing.T) {
	for i, table := range tables() {
		image, places := layout(table, 1, rising(128), spelt("64a"))
		for k, other := range tables() {
			for number, want := range [][]byte{rising(128), spelt("64a")} {
				if i == k {
					reads(t, "its table", other, image, places, number+1, 0, len(want), want)
				} else {
					readsNot(t, "another table", other, image, places, number+1, 0, len(want), api.ErrIO)
				}
			}
		}
	}
}

// Any bytes.

// TestAnyImages holds Read against P13.2 over images of frames of all kinds, with bytes turned, from each place on.
func TestAnyImages(t *testing.T) {
	table := newTable()
	told := map[api.Errno]int{}
	for seed := range uint32(40) {
		image := anyImage(table, seed)
		var places []int
		for at := -1; at <= len(image)+1; at++ {
			places = append(places, at)
		}
		for number := 0; number <= len(places)+1; number++ {
			for _, off := range []int{0, 1, 14, 127, 128} {
				for _, n := range []int{0, 1, 13, 128} {
					told[readsAsAsked(t, "any image", table, image, places, number, off, n)]++
				}
			}
		}
	}
	if told[api.OK] == 0 || told[api.ErrIO] == 0 || told[api.ErrArg] == 0 {
		t.Errorf("not all of it was met: %v", told)
	}
}

// anyImage is frames of blocks, of fewer bytes and of none, of which a byte or two are turned.
func anyImage(table *crc.Table, seed uint32) []byte {
	choice := mixed(seed, 12, 8)
	var image []byte
	for i, c := range choice[:9] {
		switch {
		case c < 3:
			image = append(image, 0, 0, 255)
		case c < 5:
			image = append(image, frameOf(table, bytes.Repeat([]byte{byte('a' + i)}, 128))...)
		case c < 7:
			image = append(image, frameOf(table, rising(128))...)
		default:
			image = append(image, frameOf(table, rising(1+i*13))...)
		}
	}
	for k := range int(seed % 3) {
		image[(int(choice[9+k])*37+int(seed)*11+k*101)%len(image)] ^= 1 << (seed % 8)
	}
	return image
}
