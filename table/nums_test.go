package table_test

import (
	"bytes"
	"math"
	"slices"
	"testing"

	"lamella/api"
	"lamella/crc"
	"lamella/meta"
	"lamella/table"
)

// wides are those that may be, and others near by and far off.
func wides() []int {
	return []int{math.MinInt, math.MinInt + 2, -4, -2, -1, 0, 1, 2, 3, 4, 5, 6, 7, 8, 16, 258, 260, 1<<32 + 2, 1<<32 + 4, math.MaxInt - 1, math.MaxInt}
}

func most(wide int) int { return map[int]int{2: 65535, 4: 4294967295}[wide] }

// numsBytes are the bytes of numbers that fit.
func numsBytes(l []int, wide int) []byte {
	var b []byte
	for _, x := range l {
		for range wide {
			b, x = append(b, byte(x)), x/256
		}
	}
	return b
}

// someNums are so many numbers that fit.
func someNums(seed uint32, many, wide int) []int {
	l := make([]int, many)
	for i, c := range mixed(seed, many*wide) {
		l[i/wide] = l[i/wide]*256 + int(c)
	}
	return l
}

func putsNums(t *testing.T, why string, l []int, wide int) {
	t.Helper()
	if b, e := table.PutNums(l, wide); !bytes.Equal(b, numsBytes(l, wide)) || e != api.OK {
		t.Errorf("%s: PutNums of %v, %d: % x, %d", why, l, wide, b, e)
	}
}

func putsNumsNot(t *testing.T, why string, l []int, wide int) {
	t.Helper()
	if b, e := table.PutNums(l, wide); b != nil || e != api.ErrArg {
		t.Errorf("%s: PutNums of %v, %d: % x, %d, wanted ErrArg", why, l, wide, b, e)
	}
}

func takesNums(t *testing.T, why string, r *meta.Reader, wide int, want []int) {
	t.Helper()
	if l, e := table.TakeNums(r, len(want), wide); !slices.Equal(l, want) || e != api.OK {
		t.Errorf("%s: TakeNums of %d, %d: %v, %d, wanted %v", why, len(want), wide, l, e, want)
	}
}

func takesNumsNot(t *testing.T, why string, r *meta.Reader, many, wide int, want api.Errno) {
	t.Helper()
	if l, e := table.TakeNums(r, many, wide); l != nil || e != want {
		t.Errorf("%s: TakeNums of %d, %d: %v, %d, wanted %d", why, many, wide, l, e, want)
	}
}

// slowTakeNums is of a reader that was opened, and of a many and a wide that may be: all bytes of the row are just those of so many numbers.
func slowTakeNums(r *meta.Reader, many, wide int) ([]int, api.Errno) {
	b := behind(r, 0)
	if len(b)%wide != 0 || len(b)/wide != many {
		return nil, api.ErrCorrupt
	}
	l := []int{}
	for at := 0; at < len(b); at += wide {
		x := 0
		for i := wide - 1; i >= 0; i-- {
			x = 256*x + int(b[at+i])
		}
		l = append(l, x)
	}
	return l, api.OK
}

// takesNumsAsAsked holds TakeNums against P11.2 taken byte by byte, and tells whether there were numbers.
func takesNumsAsAsked(t *testing.T, why string, r *meta.Reader, many, wide int) bool {
	t.Helper()
	want, e := slowTakeNums(r, many, wide)
	if e == api.OK {
		takesNums(t, why, r, wide, want)
	} else {
		takesNumsNot(t, why, r, many, wide, e)
	}
	return e == api.OK
}

// P11.2: PutNums.

func TestPutNumsTable(t *testing.T) {
	for _, x := range []struct {
		l    []int
		wide int
		want string
	}{
		{[]int{5, 258}, 2, "\x05\x00\x02\x01"}, // the chapter's
		{[]int{5, 258}, 4, "\x05\x00\x00\x00\x02\x01\x00\x00"},
		{[]int{1, 65535}, 2, "\x01\x00\xff\xff"},
		{[]int{0}, 2, "\x00\x00"},
		{[]int{0}, 4, "\x00\x00\x00\x00"},
		{[]int{0x01020304}, 4, "\x04\x03\x02\x01"},
		{[]int{0xfffefdfc, 0x80000000, 1}, 4, "\xfc\xfd\xfe\xff\x00\x00\x00\x80\x01\x00\x00\x00"},
		{[]int{0xfffe, 0x8000, 1}, 2, "\xfe\xff\x00\x80\x01\x00"},
		{[]int{9, 9, 3, 9}, 2, "\x09\x00\x09\x00\x03\x00\x09\x00"}, // neither once nor rising
	} {
		if b, e := table.PutNums(x.l, x.wide); string(b) != x.want || e != api.OK {
			t.Errorf("%v, %d: % x, %d, wanted % x", x.l, x.wide, b, e, x.want)
		}
	}
}

func TestPutNumsOfWides(t *testing.T) {
	for _, wide := range wides() {
		for _, l := range [][]int{nil, {}, make([]int, 0, 5), {0}, {1, 2, 3}, {-1}, {math.MaxInt}} {
			if wide != 2 && wide != 4 {
				putsNumsNot(t, "a wide", l, wide)
			} else if len(l) == 0 || l[0] == 0 || len(l) == 3 {
				putsNums(t, "a wide", l, wide)
			} else {
				putsNumsNot(t, "a number", l, wide)
			}
		}
	}
}

// TestPutNumsOfBounds: numbers that fit and that do not, alone, at the beginning of a row, in the midst and at the end.
func TestPutNumsOfBounds(t *testing.T) {
	others := []int{1, 0, 300, 65535}
	for _, wide := range []int{2, 4} {
		for _, x := range []int{
			math.MinInt, math.MinInt32, -1 << 32, -65536, -65535, -256, -1, 0, 1, 255, 256, 32767, 32768, 65534, 65535, 65536, 65537, 1<<24 - 1, 1 << 24,
			math.MaxInt32, 1 << 31, 1<<32 - 2, 1<<32 - 1, 1 << 32, 1<<32 + 1, 1 << 33, 1 << 40, math.MaxInt - 1, math.MaxInt,
		} {
			rows := [][]int{{x}, {x, x}}
			for at := range len(others) + 1 {
				rows = append(rows, slices.Insert(slices.Clone(others), at, x))
			}
			for _, l := range rows {
				if x >= 0 && x <= most(wide) {
					putsNums(t, "a number that fits", l, wide)
				} else {
					putsNumsNot(t, "a number that does not fit", l, wide)
				}
			}
		}
	}
}

func TestPutNumsOfMany(t *testing.T) {
	for _, wide := range []int{2, 4} {
		for _, many := range []int{1, 2, 3, 63, 64, 65, 1024, 2048, 70000} {
			putsNums(t, "many", someNums(3, many, wide), wide)
		}
		l := someNums(4, 3000, wide)
		l[2999] = -1
		putsNumsNot(t, "the last of many", l, wide)
	}
	var all []int
	for x := range 65536 {
		all = append(all, x)
	}
	putsNums(t, "each number of two bytes", all, 2)
	putsNums(t, "each number of two bytes", all, 4)
}

// P11.2: TakeNums.

// TestTakeNumsOfRows: of rows of each length up to three blocks of just so many, one fewer and one more, and with bytes cut off or put behind.
func TestTakeNumsOfRows(t *testing.T) {
	for _, wide := range []int{2, 4} {
		for many := range 3*128/wide + 3 {
			l := someNums(uint32(many), many, wide)
			b := numsBytes(l, wide)
			r := row(b)
			takesNums(t, "just so many", r, wide, l)
			takesNumsNot(t, "one more", r, many+1, wide, api.ErrCorrupt)
			takesNumsNot(t, "twice as many", r, 2*many+1, wide, api.ErrCorrupt)
			if many > 0 {
				takesNumsNot(t, "one fewer", r, many-1, wide, api.ErrCorrupt)
				takesNumsNot(t, "none", r, 0, wide, api.ErrCorrupt)
			}
			for n := 1; n <= 2*wide; n++ {
				r := row(b, make([]byte, n))
				if n%wide == 0 {
					takesNums(t, "noughts behind", r, wide, append(slices.Clone(l), make([]int, n/wide)...))
				}
				for _, asked := range []int{many, many + 1, many + 2} {
					takesNumsAsAsked(t, "bytes behind", r, asked, wide)
				}
				takesNumsNot(t, "bytes behind", r, many, wide, api.ErrCorrupt)
				if n <= len(b) {
					r := row(b[:len(b)-n])
					takesNumsNot(t, "bytes fewer", r, many, wide, api.ErrCorrupt)
					takesNumsAsAsked(t, "bytes fewer", r, many-1, wide)
				}
			}
		}
	}
}

func TestTakeNumsTable(t *testing.T) {
	r := row([]byte("\x05\x00\x02\x01"))
	takesNums(t, "of two bytes", r, 2, []int{5, 258})
	takesNums(t, "of four bytes", r, 4, []int{0x01020005})
	takesNums(t, "the greatest", row([]byte("\xff\xff\xff\xff")), 2, []int{65535, 65535})
	takesNums(t, "the greatest", row([]byte("\xff\xff\xff\xff")), 4, []int{4294967295})
	takesNums(t, "noughts", row(make([]byte, 8)), 4, []int{0, 0})
	takesNums(t, "neither once nor rising", row([]byte("\x09\x00\x09\x00\x03\x00")), 2, []int{9, 9, 3})
}

// TestTakeNumsOfNone: of none there is no number, if there is no byte at the ref 0.
func TestTakeNumsOfNone(t *testing.T) {
	for _, wide := range []int{2, 4} {
		takesNums(t, "no frames", open(nil), wide, nil)
		takesNums(t, "no bytes", row(), wide, nil)
		takesNums(t, "a hole", open(blocksOf(t, nil)), wide, nil)
		takesNums(t, "bytes behind a hole", open(blocksOf(t, nil, []byte("ab"))), wide, nil)
		takesNums(t, "no part of an image", meta.Open(newTable(), mixed(1, 50), 20, 20), wide, nil)
		takesNums(t, "what is no frame", open([]byte{1, 2, 3}), wide, nil)
		for _, n := range []int{1, 2, 3, 4, 127, 128, 129, 300} {
			takesNumsNot(t, "bytes", row(make([]byte, n)), 0, wide, api.ErrCorrupt)
			takesNumsNot(t, "bytes", row(mixed(1, n)), 0, wide, api.ErrCorrupt)
		}
		for _, many := range []int{1, 2, 32, 64} {
			takesNumsNot(t, "of a row without bytes", open(nil), many, wide, api.ErrCorrupt)
			takesNumsNot(t, "of a hole", open(blocksOf(t, nil)), many, wide, api.ErrCorrupt)
		}
	}
}

// TestTakeNumsOfWrongArguments: ErrArg stands ahead of ErrCorrupt.
func TestTakeNumsOfWrongArguments(t *testing.T) {
	good := numsBytes(someNums(1, 6, 2), 2)
	readers := append(notOpened(good), row(), row(good), row(good[:11]), open([]byte{1, 2, 3}), open(blocksOf(t, nil)))
	for _, r := range readers {
		for _, many := range []int{math.MinInt, math.MinInt + 1, -1 << 62, -1 << 32, -65536, -6, -3, -2, -1, 0, 3, 6, 1 << 62, math.MaxInt} {
			for _, wide := range wides() {
				if many < 0 || wide != 2 && wide != 4 {
					takesNumsNot(t, "wrong arguments", r, many, wide, api.ErrArg)
				}
			}
		}
	}
}

// TestTakeNumsOfFarTooMany: so many that the number of their bytes is more than an int holds, also if it would wrap round to what the row has.
func TestTakeNumsOfFarTooMany(t *testing.T) {
	for _, n := range []int{0, 1, 2, 4, 8, 12, 128, 132, 256} {
		r := row(mixed(9, n))
		for _, wide := range []int{2, 4} {
			for _, many := range []int{1 << 20, 1 << 31, 1 << 32, 1<<32 + n/wide, 1 << 60, 1 << 61, 1<<61 - 1, 1<<61 + n/wide, 1 << 62, 1<<62 - 1, 1<<62 + n/wide, 1<<62 + n/wide + 1, math.MaxInt/2 + 1, math.MaxInt - 1, math.MaxInt} {
				takesNumsNot(t, "far too many", r, many, wide, api.ErrCorrupt)
			}
		}
	}
}

func TestTakeNumsOfReadersThatAreNone(t *testing.T) {
	frames, _ := rowOf(numsBytes([]int{1, 2}, 2))
	for _, r := range append(notOpened(frames), notOpened(nil)...) {
		for _, many := range []int{0, 1, 2, 3, math.MaxInt} {
			takesNumsNot(t, "no part of an image", r, many, 2, api.ErrCorrupt)
			takesNumsNot(t, "no part of an image", r, many, 4, api.ErrCorrupt)
		}
	}
}

// TestTakeNumsOfAPart: the frames of a row stand anywhere in an image; what stands behind to is not there.
func TestTakeNumsOfAPart(t *testing.T) {
	for _, many := range []int{1, 40, 64, 65, 128, 200} {
		l := someNums(5, many, 2)
		frames, _ := rowOf(numsBytes(l, 2))
		image := slices.Concat(mixed(1, 70), frames, frames)
		takesNums(t, "in an image", meta.Open(newTable(), image, 70, 70+len(frames)), 2, l)
		for to := range frames {
			takesNumsNot(t, "up to a place", meta.Open(newTable(), image, 70, 70+to), many, 2, api.ErrCorrupt)
		}
	}
}

// TestTakeNumsOfBlocksByHand: a row goes on only behind a full frame, and only with a frame that holds bytes.
func TestTakeNumsOfBlocksByHand(t *testing.T) {
	full, rest := mixed(1, 128), mixed(2, 12)
	for _, wide := range []int{2, 4} {
		for _, x := range []struct {
			why    string
			blocks [][]byte
			bytes  int
		}{
			{"a full frame", [][]byte{full}, 128},
			{"a full frame and another", [][]byte{full, rest}, 140},
			{"two full ones", [][]byte{full, full}, 256},
			{"a hole behind", [][]byte{full, nil}, 128},
			{"a hole, and bytes behind it", [][]byte{full, nil, rest}, 128},
			{"a short frame, and another", [][]byte{rest, rest}, 12},
			{"a short frame, and a full one", [][]byte{rest, full}, 12},
			{"two short ones behind a full one", [][]byte{full, rest, rest}, 140},
			{"a frame of no whole number", [][]byte{full, rest[:5]}, 133},
			{"a frame of one byte less", [][]byte{full[:127], rest}, 127},
		} {
			r := open(blocksOf(t, x.blocks...))
			for many := range 100 {
				if taken := takesNumsAsAsked(t, x.why, r, many, wide); taken != (many*wide == x.bytes) {
					t.Errorf("%s: %d numbers of %d: %t", x.why, many, wide, taken)
				}
			}
		}
	}
}

// TestTakeNumsOfATurnedByte: every frame of the row is needed, so that none may be turned.
func TestTakeNumsOfATurnedByte(t *testing.T) {
	for _, x := range []struct{ many, wide int }{{1, 2}, {1, 4}, {3, 2}, {64, 2}, {32, 4}, {150, 2}, {70, 4}} {
		for _, b := range [][]byte{mixed(6, x.many*x.wide), make([]byte, x.many*x.wide)} { // stored, and packed
			frames, _ := rowOf(b)
			for at := range frames {
				for turn := 1; turn < 256; turn += 1 + len(frames)/40 {
					turned := slices.Clone(frames)
					turned[at] ^= byte(turn)
					takesNumsNot(t, "a byte turned", open(turned), x.many, x.wide, api.ErrCorrupt)
				}
			}
		}
	}
}

// TestTakeNumsOfWhatIsBehind: what stands behind the numbers, but can't be read, is no byte of the row.
func TestTakeNumsOfWhatIsBehind(t *testing.T) {
	l := someNums(7, 64, 2)
	frames, _ := rowOf(numsBytes(l, 2))
	next, _ := rowOf([]byte{1, 2})
	takesNumsNot(t, "a frame behind", open(slices.Concat(frames, next)), 64, 2, api.ErrCorrupt)
	for at := range next {
		turned := slices.Concat(frames, next)
		turned[len(frames)+at] ^= 1
		takesNums(t, "a turned frame behind", open(turned), 2, l)
		takesNumsNot(t, "a turned frame behind, and asked for", open(turned), 65, 2, api.ErrCorrupt)
		takesNums(t, "a cut frame behind", open(slices.Concat(frames, next[:at])), 2, l)
	}
}

func TestTakeNumsByATable(t *testing.T) {
	w := meta.New(strange())
	w.Add(numsBytes([]int{1, 2}, 4))
	frames := w.Done()
	takesNums(t, "its table", meta.Open(strange(), frames, 0, len(frames)), 4, []int{1, 2})
	takesNumsNot(t, "another table", open(frames), 2, 4, api.ErrCorrupt)
}

// P11.4: numbers.

func TestTakeNumsOfPut(t *testing.T) {
	for _, wide := range []int{2, 4} {
		for _, many := range []int{0, 1, 2, 3, 31, 32, 33, 63, 64, 65, 127, 128, 129, 1024, 2048} {
			l := someNums(uint32(many), many, wide)
			if many > 2 {
				l[0], l[many/2], l[many-1] = 0, most(wide), most(wide)
			}
			b, e := table.PutNums(l, wide)
			if e != api.OK {
				t.Fatalf("%d numbers of %d: %d", many, wide, e)
			}
			takesNums(t, "what was put", row(b), wide, l)
			half, _ := table.PutNums(l[:many/2], wide)
			rest, _ := table.PutNums(l[many/2:], wide)
			takesNums(t, "what was put in two parts", row(half, rest), wide, l)
		}
	}
}

// R6, R7.

func TestNumsChangeNothing(t *testing.T) {
	room := []int{100, 200, 5, 258, 300, -1, 70000}
	before := slices.Clone(room)
	l := room[2:4]
	first, _ := table.PutNums(l, 2)
	second, _ := table.PutNums(l, 2)
	if b, e := table.PutNums(room[2:6], 2); b != nil || e != api.ErrArg {
		t.Errorf("% x, %d", b, e)
	}
	if !slices.Equal(room, before) {
		t.Errorf("PutNums changed numbers: %v", room)
	}
	clear(first[:cap(first)])
	clear(room)
	if string(second) != "\x05\x00\x02\x01" {
		t.Errorf("two answers of PutNums: % x", second)
	}

	sums := newTable()
	frames, _ := rowOf(second)
	image := slices.Concat(mixed(1, 16), frames, mixed(2, 100))
	imageBefore := slices.Clone(image)
	r := meta.Open(sums, image[:16+len(frames)], 16, 16+len(frames))
	one, _ := table.TakeNums(r, 2, 2)
	takesNumsNot(t, "between two", r, 3, 2, api.ErrCorrupt)
	takesNumsNot(t, "between two", r, -1, 2, api.ErrArg)
	takesNums(t, "between two, of another wide", r, 4, []int{0x01020005})
	two, _ := table.TakeNums(r, 2, 2)
	if !bytes.Equal(image, imageBefore) || *sums != crc.New() {
		t.Error("TakeNums changed the image or the table of sums")
	}
	clear(one[:cap(one)])
	clear(image)
	if !slices.Equal(two, []int{5, 258}) {
		t.Errorf("two answers of TakeNums: %v", two)
	}
	takesNums(t, "behind a change of the answer", r, 2, []int{5, 258})
}
