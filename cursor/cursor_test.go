package cursor_test

import (
	"bytes"
	"math"
	"slices"
	"strings"
	"testing"

	"lamella/api"
	"lamella/cursor"
)

// mixed is n bytes, the same ones in each run of the tests.
func mixed(seed uint32, n int) []byte {
	b := make([]byte, n)
	for i := range b {
		seed = seed*1664525 + 1013904223
		b[i] = byte(seed >> 16)
	}
	return b
}

// noWidths are what no number has bytes.
func noWidths() []int {
	return []int{0, -1, -2, -4, 5, 6, 8, 9, 64, 256, 257, 1 << 32, 1<<32 + 1, -1 << 32, math.MinInt, math.MaxInt}
}

// holds is what n bytes hold at most.
func holds(n int) int { return []int{0, 255, 65535, 16777215, 4294967295}[n] }

// slowNum is a number word by word: its lowest byte first.
func slowNum(b []byte) int {
	x, weight := 0, 1
	for _, c := range b {
		x += int(c) * weight
		weight *= 256
	}
	return x
}

// readerIsDead asks everything of a reader behind its error.
func readerIsDead(t *testing.T, what string, r *cursor.Reader, e api.Errno) {
	t.Helper()
	for round := 0; round < 2; round++ {
		if r.Err() != e || r.Left() != 0 {
			t.Errorf("%s: Err %d Left %d, wanted %d and 0", what, r.Err(), r.Left(), e)
		}
		for _, n := range []int{1, 2, 3, 4, 0, -1, 5} {
			if x := r.Num(n); x != 0 || r.Err() != e {
				t.Errorf("%s: Num(%d) behind the error: %d, %d", what, n, x, r.Err())
			}
		}
		for _, n := range []int{0, 1, 2, -1, math.MinInt, math.MaxInt} {
			if b := r.Bytes(n); len(b) != 0 || r.Err() != e {
				t.Errorf("%s: Bytes(%d) behind the error: %x, %d", what, n, b, r.Err())
			}
		}
		if s := r.Text(); s != "" || r.Err() != e {
			t.Errorf("%s: Text behind the error: %q, %d", what, s, r.Err())
		}
		if end := r.End(); end != e || r.Err() != e || r.Left() != 0 {
			t.Errorf("%s: End behind the error: %d, then %d", what, end, r.Err())
		}
	}
}

// writerIsDead does everything to a writer behind its error.
func writerIsDead(t *testing.T, what string, w *cursor.Writer, e api.Errno) {
	t.Helper()
	still := func(call string) {
		t.Helper()
		if w.Err() != e || w.Len() != 0 || len(w.Done()) != 0 {
			t.Errorf("%s: behind the error, after %s: Err %d Len %d Done %x, wanted %d", what, call, w.Err(), w.Len(), w.Done(), e)
		}
	}
	still("it")
	for n := 1; n <= 4; n++ {
		w.Num(1, n)
		still("Num")
	}
	w.Num(256, 1)
	still("a Num that is wrong")
	w.Num(0, 0)
	still("a Num of no bytes")
	w.Bytes([]byte{1, 2, 3})
	still("Bytes")
	w.Bytes(nil)
	still("Bytes of none")
	w.Text("abc")
	still("Text")
	w.Text("")
	still("an empty Text")
	w.Text(strings.Repeat("a", 256))
	still("a Text that is too long")
}

func TestExamplesOfTheChapter(t *testing.T) {
	var w cursor.Writer
	w.Num(258, 2)
	w.Text("ab")
	if b := w.Done(); !bytes.Equal(b, []byte{2, 1, 2, 0x61, 0x62}) {
		t.Fatalf("Done: %x", b)
	}
	r := cursor.Read(w.Done())
	if x := r.Num(2); x != 258 {
		t.Errorf("Num(2): %d", x)
	}
	if s := r.Text(); s != "ab" {
		t.Errorf("Text: %q", s)
	}
	if e := r.End(); e != api.OK {
		t.Errorf("End: %d", e)
	}
}

// P3.1: Num.

func TestReaderNum(t *testing.T) {
	rows := [][]byte{{0, 0, 0, 0}, {1, 0, 0, 0}, {0, 1, 0, 0}, {0, 0, 1, 0}, {0, 0, 0, 1}, {0, 0, 0, 128}, {128, 128, 128, 128}, {255, 255, 255, 255}, {255, 0, 255, 0}, {1, 2, 3, 4}}
	for seed := uint32(0); seed < 50; seed++ {
		rows = append(rows, mixed(seed, 4))
	}
	for _, row := range rows {
		for n := 1; n <= 4; n++ {
			for more := 0; more < 3; more++ {
				b := append(slices.Clone(row[:n]), make([]byte, more)...)
				r := cursor.Read(b)
				if x := r.Num(n); x != slowNum(row[:n]) || r.Left() != more || r.Err() != api.OK {
					t.Errorf("%x: Num(%d) %d, Left %d, Err %d", b, n, x, r.Left(), r.Err())
				}
			}
		}
	}
}

func TestReaderNumOfFewerBytes(t *testing.T) {
	for n := 1; n <= 4; n++ {
		for have := 0; have < n; have++ {
			b := bytes.Repeat([]byte{7}, have)
			r := cursor.Read(b)
			if x := r.Num(n); x != 0 {
				t.Errorf("Num(%d) of %d bytes: %d", n, have, x)
			}
			readerIsDead(t, "Num of fewer bytes", r, api.ErrCorrupt)

			r = cursor.Read(append([]byte{9, 9}, b...))
			if r.Num(2) != 9*256+9 || r.Err() != api.OK {
				t.Fatal("Num(2)")
			}
			if x := r.Num(n); x != 0 {
				t.Errorf("a second Num(%d) of %d bytes: %d", n, have, x)
			}
			readerIsDead(t, "a second Num of fewer bytes", r, api.ErrCorrupt)
		}
	}
}

func TestReaderNumOfNoWidth(t *testing.T) {
	for _, n := range noWidths() {
		for _, b := range [][]byte{nil, {}, {1}, {1, 2, 3, 4}, {1, 2, 3, 4, 5, 6, 7, 8, 9, 10}} {
			r := cursor.Read(b)
			if x := r.Num(n); x != 0 {
				t.Errorf("Num(%d) of %x: %d", n, b, x)
			}
			readerIsDead(t, "Num of another n", r, api.ErrArg)
		}
	}
}

// P3.1: Bytes.

func TestReaderBytes(t *testing.T) {
	for _, size := range []int{0, 1, 2, 5, 255, 256, 1000} {
		all := mixed(3, size)
		for _, n := range []int{0, 1, 2, 4, 254, 255, 256, 999, 1000} {
			if n > size {
				continue
			}
			r := cursor.Read(all)
			if b := r.Bytes(n); !bytes.Equal(b, all[:n]) || r.Left() != size-n || r.Err() != api.OK {
				t.Errorf("Bytes(%d) of %d bytes: %d bytes, Left %d, Err %d", n, size, len(b), r.Left(), r.Err())
			}
			if b := r.Bytes(size - n); !bytes.Equal(b, all[n:]) || r.Left() != 0 || r.Err() != api.OK {
				t.Errorf("the other %d bytes of %d: %d bytes, Left %d, Err %d", size-n, size, len(b), r.Left(), r.Err())
			}
			if b := r.Bytes(0); len(b) != 0 || r.End() != api.OK {
				t.Errorf("Bytes(0) at the end: %x, %d", b, r.End())
			}
		}
	}
}

func TestReaderBytesOfFewer(t *testing.T) {
	for _, size := range []int{0, 1, 2, 255} {
		for _, n := range []int{size + 1, size + 2, size + 256, 1 << 32, 1<<32 + size, math.MaxInt} {
			r := cursor.Read(mixed(4, size))
			if b := r.Bytes(n); len(b) != 0 {
				t.Errorf("Bytes(%d) of %d: %x", n, size, b)
			}
			readerIsDead(t, "Bytes of fewer", r, api.ErrCorrupt)
		}
	}
}

func TestReaderBytesBelowNone(t *testing.T) {
	for _, size := range []int{0, 1, 2, 255} {
		for _, n := range []int{-1, -2, -256, -1 << 32, math.MinInt} {
			r := cursor.Read(mixed(5, size))
			if b := r.Bytes(n); len(b) != 0 {
				t.Errorf("Bytes(%d) of %d: %x", n, size, b)
			}
			readerIsDead(t, "Bytes below 0", r, api.ErrArg)
		}
	}
}

func TestReaderDoesNotSeeSpareRoom(t *testing.T) {
	room := mixed(6, 20)
	r := cursor.Read(room[:3])
	if r.Left() != 3 {
		t.Fatalf("Left: %d", r.Left())
	}
	if b := r.Bytes(4); len(b) != 0 {
		t.Errorf("Bytes(4) of 3: %x", b)
	}
	readerIsDead(t, "Bytes into spare room", r, api.ErrCorrupt)
	r = cursor.Read(append(room[:0:20], 3, 'a', 'b'))
	if s := r.Text(); s != "" {
		t.Errorf("a text into spare room: %q", s)
	}
	readerIsDead(t, "a text into spare room", r, api.ErrCorrupt)
}

// P3.1: Text.

func TestReaderText(t *testing.T) {
	for _, n := range []int{0, 1, 2, 3, 127, 128, 129, 254, 255} {
		for _, more := range []int{0, 1, 300} {
			text := mixed(uint32(n), n)
			b := slices.Concat([]byte{byte(n)}, text, make([]byte, more))
			r := cursor.Read(b)
			if s := r.Text(); s != string(text) || r.Left() != more || r.Err() != api.OK {
				t.Errorf("a text of %d: %q, Left %d, Err %d", n, s, r.Left(), r.Err())
			}
		}
	}
	r := cursor.Read([]byte("\x00\x01a\x00\x02\xff\x00"))
	if r.Text() != "" || r.Text() != "a" || r.Text() != "" || r.Text() != "\xff\x00" || r.End() != api.OK {
		t.Error("texts behind each other")
	}
}

func TestReaderTextThatIsNone(t *testing.T) {
	rows := [][]byte{nil, {}, {1}, {2}, {2, 'a'}, {255}, append([]byte{255}, mixed(1, 254)...), append([]byte{128}, mixed(1, 127)...)}
	for _, b := range rows {
		r := cursor.Read(b)
		if s := r.Text(); s != "" {
			t.Errorf("%x: Text %q", b, s)
		}
		readerIsDead(t, "Text of none", r, api.ErrCorrupt)

		r = cursor.Read(append([]byte{5}, b...))
		if r.Num(1) != 5 || r.Text() != "" {
			t.Errorf("%x: Text behind Num", b)
		}
		readerIsDead(t, "Text of none, behind Num", r, api.ErrCorrupt)
	}
}

// P3.1: Left, Err and End.

func TestReaderOfNoBytes(t *testing.T) {
	for _, b := range [][]byte{nil, {}} {
		r := cursor.Read(b)
		if r.Left() != 0 || r.Err() != api.OK || r.End() != api.OK || r.Err() != api.OK {
			t.Errorf("no bytes: Left %d, Err %d, End %d", r.Left(), r.Err(), r.End())
		}
		if b := r.Bytes(0); len(b) != 0 || r.End() != api.OK {
			t.Errorf("Bytes(0) of none: %x, %d", b, r.End())
		}
	}
}

func TestReaderTellsAndStays(t *testing.T) {
	r := cursor.Read([]byte{1, 2, 3})
	for i := 3; i > 0; i-- {
		if r.Left() != i || r.Left() != i || r.Err() != api.OK || r.Err() != api.OK {
			t.Errorf("Left %d, Err %d, wanted %d", r.Left(), r.Err(), i)
		}
		if x := r.Num(1); x != 4-i {
			t.Errorf("Num(1): %d", x)
		}
	}
	if r.End() != api.OK || r.End() != api.OK || r.Left() != 0 {
		t.Error("End at the end")
	}
	if r.Num(1) != 0 {
		t.Error("Num behind the end")
	}
	readerIsDead(t, "Num behind End", r, api.ErrCorrupt)
}

func TestReaderEndWithBytesLeft(t *testing.T) {
	for _, size := range []int{1, 2, 255, 256} {
		r := cursor.Read(mixed(8, size))
		if e := r.End(); e != api.ErrCorrupt {
			t.Errorf("End with %d left: %d", size, e)
		}
		readerIsDead(t, "End with bytes left", r, api.ErrCorrupt)
	}
	r := cursor.Read([]byte{1, 2, 3})
	if r.Num(2) != 513 || r.End() != api.ErrCorrupt {
		t.Error("End behind Num")
	}
	readerIsDead(t, "End behind Num", r, api.ErrCorrupt)
}

func TestReadersFirstErrorStays(t *testing.T) {
	wrong := []struct {
		name string
		does func(r *cursor.Reader)
		e    api.Errno
	}{
		{"Num(0)", func(r *cursor.Reader) { r.Num(0) }, api.ErrArg},
		{"Num(5)", func(r *cursor.Reader) { r.Num(5) }, api.ErrArg},
		{"Num(4)", func(r *cursor.Reader) { r.Num(4) }, api.ErrCorrupt},
		{"Bytes(-1)", func(r *cursor.Reader) { r.Bytes(-1) }, api.ErrArg},
		{"Bytes(4)", func(r *cursor.Reader) { r.Bytes(4) }, api.ErrCorrupt},
		{"Text", func(r *cursor.Reader) { r.Text() }, api.ErrCorrupt},
		{"End", func(r *cursor.Reader) { r.End() }, api.ErrCorrupt},
	}
	for _, first := range wrong {
		for _, second := range wrong {
			r := cursor.Read([]byte{3, 1, 2})
			first.does(r)
			if r.Err() != first.e {
				t.Errorf("%s: %d", first.name, r.Err())
			}
			second.does(r)
			readerIsDead(t, first.name+", "+second.name, r, first.e)
		}
	}
}

// slowReader is P3.1 word by word: nothing is cut off, a place is kept.
type slowReader struct {
	all []byte
	at  int
	err api.Errno
}

func (s *slowReader) num(n int) int {
	switch {
	case s.err != api.OK:
		return 0
	case n != 1 && n != 2 && n != 3 && n != 4:
		s.err = api.ErrArg
		return 0
	case s.at+n > len(s.all):
		s.err = api.ErrCorrupt
		return 0
	}
	s.at += n
	return slowNum(s.all[s.at-n : s.at])
}

func (s *slowReader) bytes(n int) string {
	switch {
	case s.err != api.OK:
		return ""
	case n < 0:
		s.err = api.ErrArg
		return ""
	case n > len(s.all)-s.at:
		s.err = api.ErrCorrupt
		return ""
	}
	s.at += n
	return string(s.all[s.at-n : s.at])
}

func (s *slowReader) text() string {
	switch {
	case s.err != api.OK:
		return ""
	case s.at == len(s.all) || s.at+1+int(s.all[s.at]) > len(s.all):
		s.err = api.ErrCorrupt
		return ""
	}
	from := s.at + 1
	s.at = from + int(s.all[s.at])
	return string(s.all[from:s.at])
}

func (s *slowReader) left() int {
	if s.err != api.OK {
		return 0
	}
	return len(s.all) - s.at
}

func (s *slowReader) end() api.Errno {
	if s.err == api.OK && s.at < len(s.all) {
		s.err = api.ErrCorrupt
	}
	return s.err
}

func TestReaderOfAnyBytesByAnyCalls(t *testing.T) {
	for seed := uint32(0); seed < 2000; seed++ {
		all := mixed(seed, int(seed%61))
		for i := range all {
			if i%2 == 0 {
				all[i] %= 16
			}
		}
		r, s := cursor.Read(all), &slowReader{all: all}
		for step, c := range mixed(seed+77, 24) {
			n := int(c>>4) - 1
			same := false
			switch c % 16 {
			case 0, 1, 2, 3, 4:
				same = r.Num(n%6) == s.num(n%6)
			case 5, 6, 7, 8:
				same = string(r.Bytes(n)) == s.bytes(n)
			case 9, 10, 11, 12, 13, 14:
				same = r.Text() == s.text()
			case 15:
				same = step < 12 || r.End() == s.end()
			}
			if !same || r.Err() != s.err || r.Left() != s.left() {
				t.Fatalf("seed %d, step %d, call %d: Err %d Left %d, wanted %d and %d", seed, step, c%16, r.Err(), r.Left(), s.err, s.left())
			}
		}
	}
}

// P3.2: Num.

func TestWriterNum(t *testing.T) {
	for n := 1; n <= 4; n++ {
		numbers := []int{0, 1, 127, 128, 254, 255, 256, 257, 32767, 32768, 65534, 65535, 65536, 1<<24 - 1, 1 << 24, 1<<31 - 1, 1 << 31, 1<<32 - 2, 1<<32 - 1, 0x01020304}
		for seed := uint32(0); seed < 50; seed++ {
			numbers = append(numbers, slowNum(mixed(seed, n)))
		}
		for _, x := range numbers {
			if x > holds(n) {
				continue
			}
			w := &cursor.Writer{}
			w.Num(x, n)
			b := w.Done()
			if len(b) != n || slowNum(b) != x || w.Len() != n || w.Err() != api.OK {
				t.Errorf("Num(%d, %d): %x, Len %d, Err %d", x, n, b, w.Len(), w.Err())
			}
		}
	}
}

func TestWriterNumThatDoesNotFit(t *testing.T) {
	for n := 1; n <= 4; n++ {
		most := holds(n)
		for _, x := range []int{most + 1, most + 2, 2*most + 1, 1 << 32, 1<<32 + 1, 1 << 40, 1 << 62, math.MaxInt, -1, -2, -255, -256, -most - 1, -1 << 32, math.MinInt, math.MinInt + 1} {
			w := &cursor.Writer{}
			w.Num(x, n)
			writerIsDead(t, "Num that does not fit", w, api.ErrArg)

			w = &cursor.Writer{}
			w.Text("ahead")
			w.Num(x, n)
			writerIsDead(t, "Num that does not fit, behind a text", w, api.ErrArg)
		}
	}
}

func TestWriterNumOfNoWidth(t *testing.T) {
	for _, n := range noWidths() {
		for _, x := range []int{0, 1, 255, 256, 1 << 40, -1, math.MaxInt, math.MinInt} {
			w := &cursor.Writer{}
			w.Num(7, 1)
			w.Num(x, n)
			writerIsDead(t, "Num of another n", w, api.ErrArg)
		}
	}
}

// P3.2: Bytes and Text.

func TestWriterBytes(t *testing.T) {
	w := &cursor.Writer{}
	var all []byte
	for _, n := range []int{0, 1, 2, 0, 255, 256, 1000, 70000} {
		b := mixed(uint32(n), n)
		w.Bytes(b)
		all = append(all, b...)
		if !bytes.Equal(w.Done(), all) || w.Len() != len(all) || w.Err() != api.OK {
			t.Errorf("Bytes of %d: Len %d, Err %d", n, w.Len(), w.Err())
		}
	}
	w.Bytes(nil)
	if !bytes.Equal(w.Done(), all) || w.Err() != api.OK {
		t.Error("Bytes of nil")
	}
}

func TestWriterText(t *testing.T) {
	for _, n := range []int{0, 1, 2, 127, 128, 254, 255} {
		w := &cursor.Writer{}
		w.Num(9, 1)
		text := mixed(uint32(n), n)
		w.Text(string(text))
		want := append([]byte{9, byte(n)}, text...)
		if !bytes.Equal(w.Done(), want) || w.Len() != n+2 || w.Err() != api.OK {
			t.Errorf("a text of %d: %x, Len %d, Err %d", n, w.Done(), w.Len(), w.Err())
		}
	}
}

func TestWriterTextCountsBytes(t *testing.T) {
	w := &cursor.Writer{}
	w.Text(strings.Repeat("é", 127))
	if w.Len() != 255 || w.Done()[0] != 254 || w.Err() != api.OK {
		t.Errorf("127 signs of two bytes: Len %d, Err %d", w.Len(), w.Err())
	}
	w.Text(strings.Repeat("é", 128))
	writerIsDead(t, "128 signs of two bytes", w, api.ErrBig)
}

func TestWriterTextTooLong(t *testing.T) {
	for _, n := range []int{256, 257, 511, 512, 65536, 65791} {
		w := &cursor.Writer{}
		w.Text(string(mixed(1, n)))
		writerIsDead(t, "a text too long", w, api.ErrBig)

		w = &cursor.Writer{}
		w.Bytes([]byte{1, 2})
		w.Text(string(mixed(1, n)))
		writerIsDead(t, "a text too long, behind bytes", w, api.ErrBig)
	}
}

// P3.2: Len, Done and Err.

func TestWriterThatIsNew(t *testing.T) {
	var w cursor.Writer
	if w.Len() != 0 || len(w.Done()) != 0 || w.Err() != api.OK {
		t.Errorf("the zero value: Len %d, Done %x, Err %d", w.Len(), w.Done(), w.Err())
	}
	w.Bytes(nil)
	if w.Len() != 0 || len(w.Done()) != 0 || w.Err() != api.OK {
		t.Errorf("nothing written: Len %d, Done %x, Err %d", w.Len(), w.Done(), w.Err())
	}
}

func TestWriterTellsAndStays(t *testing.T) {
	w := &cursor.Writer{}
	var want []byte
	for i := 0; i < 300; i++ {
		w.Num(i%256, 1)
		want = append(want, byte(i))
		for again := 0; again < 2; again++ {
			if w.Len() != i+1 || !bytes.Equal(w.Done(), want) || w.Err() != api.OK {
				t.Fatalf("after %d: Len %d, Err %d", i+1, w.Len(), w.Err())
			}
		}
	}
}

func TestWritersFirstErrorStays(t *testing.T) {
	wrong := []struct {
		name string
		does func(w *cursor.Writer)
		e    api.Errno
	}{
		{"Num(256, 1)", func(w *cursor.Writer) { w.Num(256, 1) }, api.ErrArg},
		{"Num(1, 0)", func(w *cursor.Writer) { w.Num(1, 0) }, api.ErrArg},
		{"Text of 256", func(w *cursor.Writer) { w.Text(strings.Repeat("a", 256)) }, api.ErrBig},
	}
	for _, first := range wrong {
		for _, second := range wrong {
			w := &cursor.Writer{}
			w.Num(1, 4)
			first.does(w)
			if w.Err() != first.e {
				t.Errorf("%s: %d", first.name, w.Err())
			}
			second.does(w)
			writerIsDead(t, first.name+", "+second.name, w, first.e)
		}
	}
}

// P3.3.

// step is a call of a writer, and the one of a reader that tells the same.
type step struct {
	width int // of a number
	x     int
	text  bool
	b     []byte
}

func steps(seed uint32) []step {
	var all []step
	for i, c := range mixed(seed, 1+int(seed%40)) {
		b := mixed(seed*31+uint32(i), int(c>>2)+int(c)%3*95)
		switch width := int(c % 8); {
		case width >= 1 && width <= 4:
			x := slowNum(mixed(seed*17+uint32(i), width))
			if c >= 240 {
				x = holds(width)
			}
			all = append(all, step{width: width, x: x})
		case width >= 5:
			all = append(all, step{text: true, b: b[:min(len(b), 255)]})
		default:
			all = append(all, step{b: b})
		}
	}
	return all
}

func (s step) write(w *cursor.Writer) {
	switch {
	case s.width > 0:
		w.Num(s.x, s.width)
	case s.text:
		w.Text(string(s.b))
	default:
		w.Bytes(s.b)
	}
}

func (s step) isNext(r *cursor.Reader) bool {
	switch {
	case s.width > 0:
		return r.Num(s.width) == s.x
	case s.text:
		return r.Text() == string(s.b)
	}
	return bytes.Equal(r.Bytes(len(s.b)), s.b)
}

func TestWrittenIsReadAsItWas(t *testing.T) {
	for seed := uint32(1); seed < 400; seed++ {
		w := &cursor.Writer{}
		lens := []int{0}
		all := steps(seed)
		for _, s := range all {
			s.write(w)
			lens = append(lens, w.Len())
		}
		b := w.Done()
		if w.Err() != api.OK || len(b) != w.Len() {
			t.Fatalf("seed %d: Err %d, %d bytes, Len %d", seed, w.Err(), len(b), w.Len())
		}
		r := cursor.Read(b)
		for i, s := range all {
			if r.Left() != len(b)-lens[i] {
				t.Fatalf("seed %d, ahead of step %d: Left %d of %d, Len was %d", seed, i, r.Left(), len(b), lens[i])
			}
			if !s.isNext(r) || r.Err() != api.OK {
				t.Fatalf("seed %d, step %d is not read as it was: %+v, Err %d", seed, i, s, r.Err())
			}
		}
		if e := r.End(); e != api.OK {
			t.Fatalf("seed %d: End %d", seed, e)
		}
	}
}

func TestEachShortNumberIsReadAsItWas(t *testing.T) {
	for n := 1; n <= 4; n++ {
		w := &cursor.Writer{}
		most := min(holds(n), 1<<16-1)
		for x := 0; x <= most; x++ {
			w.Num(x, n)
		}
		r := cursor.Read(w.Done())
		for x := 0; x <= most; x++ {
			if y := r.Num(n); y != x {
				t.Fatalf("Num(%d, %d) is read as %d", x, n, y)
			}
		}
		if w.Err() != api.OK || r.End() != api.OK {
			t.Fatalf("width %d: %d, %d", n, w.Err(), r.End())
		}
	}
}

func TestEachTextsLengthIsReadAsItWas(t *testing.T) {
	w := &cursor.Writer{}
	for n := 0; n <= 255; n++ {
		w.Text(string(mixed(uint32(n), n)))
	}
	r := cursor.Read(w.Done())
	for n := 0; n <= 255; n++ {
		if s := r.Text(); s != string(mixed(uint32(n), n)) {
			t.Fatalf("a text of %d is read as one of %d", n, len(s))
		}
	}
	if w.Err() != api.OK || r.End() != api.OK {
		t.Fatalf("%d, %d", w.Err(), r.End())
	}
}

// R7: what is handed in is neither changed nor kept, what is answered is the caller's own.

func TestReaderKeepsAndSharesNothing(t *testing.T) {
	room := mixed(11, 40)
	was := slices.Clone(room)
	b := room[:20]
	r := cursor.Read(b)
	other := cursor.Read(b)
	got := r.Bytes(6)
	r.Num(4)
	r.Text()
	r.End()
	if !bytes.Equal(room, was) {
		t.Error("reading changed what was handed in")
	}
	for i := range room {
		room[i] = 0xEE
	}
	if !bytes.Equal(got, was[:6]) {
		t.Error("what was answered is not the caller's own")
	}
	first := other.Bytes(3)
	if !bytes.Equal(first, was[:3]) {
		t.Error("the reader kept what was handed in")
	}
	first = append(first, 1, 2, 3, 4, 5, 6, 7, 8)
	for i := range first {
		first[i] = 0xDD
	}
	if next := other.Bytes(17); !bytes.Equal(next, was[3:20]) {
		t.Errorf("a change of the answer is seen in the next one: %x", next)
	}
}

func TestWriterKeepsAndSharesNothing(t *testing.T) {
	room := mixed(12, 40)
	was := slices.Clone(room)
	w := &cursor.Writer{}
	w.Bytes(room[:10])
	w.Num(1, 4)
	w.Text("abc")
	if !bytes.Equal(room, was) {
		t.Error("writing changed what was handed in")
	}
	for i := range room {
		room[i] = 0xEE
	}
	want := slices.Concat(was[:10], []byte{1, 0, 0, 0, 3, 'a', 'b', 'c'})
	done := w.Done()
	if !bytes.Equal(done, want) {
		t.Error("the writer kept what was handed in")
	}
	twice := w.Done()
	w.Num(77, 1)
	done = append(done, 5)
	for i := range done {
		done[i] = 0xDD
	}
	if !bytes.Equal(twice, want) {
		t.Error("two answers of Done share their bytes")
	}
	if !bytes.Equal(w.Done(), append(want, 77)) {
		t.Errorf("a change of the answer is seen in the writer: %x", w.Done())
	}
	w.Num(-1, 1)
	if !bytes.Equal(twice, want[:len(twice)]) {
		t.Error("an error changed what was answered")
	}
}

func TestReadersAndWritersGoTheirOwnWay(t *testing.T) {
	b := []byte{1, 2, 3}
	one, two := cursor.Read(b), cursor.Read(b)
	one.Num(9)
	if two.Err() != api.OK || two.Left() != 3 || two.Num(3) != 0x030201 || two.End() != api.OK {
		t.Error("a reader sees another one's error")
	}
	v, w := &cursor.Writer{}, &cursor.Writer{}
	w.Text("ab")
	v.Num(-1, 1)
	if w.Err() != api.OK || string(w.Done()) != "\x02ab" || v.Err() != api.ErrArg {
		t.Error("a writer sees another one's error")
	}
}
