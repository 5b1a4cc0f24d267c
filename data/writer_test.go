package data_test

import (
	"bytes"
	"math"
	"slices"
	"testing"

	"lamella/api"
	"lamella/crc"
	"lamella/data"
	"lamella/frame"
)

func adds(t *testing.T, why string, w *data.Writer, b []byte, start int, tail string) {
	t.Helper()
	if at, rest := w.Add(b); at != start || string(rest) != tail {
		t.Errorf("%s: Add of %d bytes: %d, % x, wanted %d, % x", why, len(b), at, rest, start, tail)
	}
}

// slowWriter is P12.1 word by word: it asks all Adds that were ahead.
type slowWriter struct {
	table *crc.Table
	first int
	laid  []byte
	ahead []laidDown
}

type laidDown struct {
	start  int
	frames []byte
}

func (w *slowWriter) add(b []byte) (int, []byte) {
	frames, tail := framesOf(w.table, b)
	start := 0
	if len(frames) > 0 {
		start = w.place(frames)
	}
	w.ahead = append(w.ahead, laidDown{start, frames})
	return start, tail
}

func (w *slowWriter) place(frames []byte) int {
	for _, x := range w.ahead {
		if bytes.Equal(x.frames, frames) {
			return x.start
		}
	}
	w.laid = append(w.laid, frames...)
	return w.first + len(w.laid) - len(frames)
}

func (w *slowWriter) frame(b []byte) int {
	f, _ := frame.Put(w.table, b)
	w.laid = append(w.laid, f...)
	return w.first + len(w.laid) - len(f)
}

// pair is a writer and the slow one, which must answer alike.
type pair struct {
	fast *data.Writer
	slow *slowWriter
}

func newPair(table *crc.Table, first int) pair {
	return pair{data.New(table, first), &slowWriter{table: table, first: first}}
}

func (p pair) add(t *testing.T, why string, b []byte) int {
	t.Helper()
	start, tail := p.slow.add(b)
	adds(t, why, p.fast, b, start, string(tail))
	p.done(t, why)
	return start
}

func (p pair) frame(t *testing.T, why string, b []byte) {
	t.Helper()
	want := p.slow.frame(b)
	if at := p.fast.Frame(b); at != want {
		t.Errorf("%s: Frame of %d bytes: %d, wanted %d", why, len(b), at, want)
	}
	p.done(t, why)
}

func (p pair) done(t *testing.T, why string) {
	t.Helper()
	for range 2 {
		if b := p.fast.Done(); !bytes.Equal(b, p.slow.laid) {
			t.Fatalf("%s: Done: % x, wanted % x", why, b, p.slow.laid)
		}
	}
}

func firsts() []int {
	return []int{0, 1, 63, 64, 65, 4096, 1 << 20, 1 << 40, math.MaxInt - 1<<20, -1, -64, -100000, math.MinInt}
}

// P12.1: New, Done.

func TestNothingYet(t *testing.T) {
	for _, first := range append(firsts(), math.MaxInt) {
		for _, table := range append(tables(), nil) {
			w := data.New(table, first)
			for range 3 {
				if b := w.Done(); len(b) != 0 {
					t.Errorf("Done of nothing: % x", b)
				}
				adds(t, "nil", w, nil, 0, "")
				adds(t, "empty", w, []byte{}, 0, "")
				adds(t, "a tail alone", w, []byte("tail"), 0, "tail")
			}
		}
	}
}

// TestFirst: all places are counted from first on; a hole needs no table.
func TestFirst(t *testing.T) {
	for _, first := range firsts() {
		w := data.New(newTable(), first)
		adds(t, "the first", w, rising(128), first, "")
		adds(t, "one behind it", w, letters("a"), first+135, "")
		if at := w.Frame([]byte("f")); at != first+146 {
			t.Errorf("Frame from %d on: %d", first, at)
		}
		adds(t, "a hole", w, make([]byte, 129), first+154, "\x00")
		adds(t, "the first again", w, rising(128), first, "")
		adds(t, "no blocks", w, []byte("a"), 0, "a")
		if n := len(w.Done()); n != 157 {
			t.Errorf("Done: %d bytes", n)
		}
		v := data.New(nil, first)
		adds(t, "a hole, without a table", v, make([]byte, 256), first, "")
	}
}

// TestFirstAtTheGreatest: places behind the greatest int are none, but no call fails.
func TestFirstAtTheGreatest(t *testing.T) {
	w := data.New(newTable(), math.MaxInt)
	adds(t, "the first", w, letters("a"), math.MaxInt, "")
	w.Add(letters("b"))
	w.Frame([]byte("f"))
	adds(t, "the first again", w, letters("a"), math.MaxInt, "")
	if n := len(w.Done()); n != 11+11+8 {
		t.Errorf("Done: %d bytes", n)
	}
}

// TestDoneTable: all that was laid down, byte by byte.
func TestDoneTable(t *testing.T) {
	a, b, c := frameOf(newTable(), letters("a")), frameOf(newTable(), letters("b")), frameOf(newTable(), []byte("c"))
	if len(a) != 11 || !bytes.Equal(a[:3], []byte{4, 0, 251}) || !bytes.Equal(a[7:], []byte{0, 'a', 252, 0}) {
		t.Fatalf("the frame of 128 times a: % x", a)
	}
	hole := []byte{0, 0, 255}
	for _, x := range []struct {
		why  string
		lay  func(w *data.Writer)
		want []byte
	}{
		{"nothing", func(w *data.Writer) {}, nil},
		{"a tail", func(w *data.Writer) { w.Add([]byte("tail")) }, nil},
		{"a block", func(w *data.Writer) { w.Add(letters("a")) }, a},
		{"a block and a tail", func(w *data.Writer) { w.Add(append(letters("a"), 't')) }, a},
		{"two blocks", func(w *data.Writer) { w.Add(letters("ab")) }, slices.Concat(a, b)},
		{"the same block twice in a file", func(w *data.Writer) { w.Add(letters("aa")) }, slices.Concat(a, a)},
		{"two files", func(w *data.Writer) { w.Add(letters("b")); w.Add(letters("a")) }, slices.Concat(b, a)},
		{"the same file twice", func(w *data.Writer) { w.Add(letters("b")); w.Add(letters("b")) }, b},
		{"a hole", func(w *data.Writer) { w.Add(make([]byte, 128)) }, hole},
		{"three holes", func(w *data.Writer) { w.Add(make([]byte, 384+7)) }, slices.Concat(hole, hole, hole)},
		{"a hole between", func(w *data.Writer) { w.Add(letters("a\x00b")) }, slices.Concat(a, hole, b)},
		{"holes around", func(w *data.Writer) { w.Add(letters("\x00a\x00")) }, slices.Concat(hole, a, hole)},
		{"a frame", func(w *data.Writer) { w.Frame([]byte("c")) }, c},
		{"a frame twice", func(w *data.Writer) { w.Frame([]byte("c")); w.Frame([]byte("c")) }, slices.Concat(c, c)},
		{"a frame between", func(w *data.Writer) { w.Add(letters("a")); w.Frame([]byte("c")); w.Add(letters("b")) }, slices.Concat(a, c, b)},
		{"a frame of what was added", func(w *data.Writer) { w.Add(letters("a")); w.Frame(letters("a")) }, slices.Concat(a, a)},
		{"a frame of what is added", func(w *data.Writer) { w.Frame(letters("a")); w.Add(letters("a")) }, slices.Concat(a, a)},
	} {
		for _, first := range firsts() {
			w := data.New(newTable(), first)
			x.lay(w)
			for range 2 {
				if done := w.Done(); !bytes.Equal(done, x.want) {
					t.Errorf("%s: % x, wanted % x", x.why, done, x.want)
				}
			}
		}
	}
}

// P12.1: Add.

func TestAddOfSizes(t *testing.T) {
	for _, table := range tables() {
		for n := range 600 {
			for _, b := range [][]byte{make([]byte, n), rising(n), mixed(uint32(n), n, 2), mixed(uint32(n), n, 255)} {
				p := newPair(table, 64)
				start := p.add(t, "the only one", b)
				if want := min(n/128, 1) * 64; start != want {
					t.Errorf("%d bytes: %d, wanted %d", n, start, want)
				}
			}
		}
	}
}

// TestAddOfMore: Add has no bound of its own.
func TestAddOfMore(t *testing.T) {
	p := newPair(newTable(), 64)
	for _, n := range []int{4095, 4096, 4097, 4224, 10000, 70000} {
		for _, b := range [][]byte{make([]byte, n), rising(n), mixed(uint32(n), n, 3), mixed(uint32(n), n, 255)} {
			p.add(t, "more", b)
			p.add(t, "more, again", b)
		}
	}
}

func TestNoughts(t *testing.T) {
	w := data.New(newTable(), 64)
	adds(t, "one block", w, make([]byte, 128), 64, "")
	adds(t, "two blocks", w, make([]byte, 256), 67, "")
	adds(t, "three blocks", w, make([]byte, 384), 73, "")
	adds(t, "two blocks, and a tail of noughts", w, make([]byte, 258), 67, "\x00\x00")
	adds(t, "one block, and a tail of noughts", w, make([]byte, 129), 64, "\x00")
	adds(t, "a tail of noughts alone", w, make([]byte, 3), 0, "\x00\x00\x00")
	if want := bytes.Repeat([]byte{0, 0, 255}, 6); !bytes.Equal(w.Done(), want) {
		t.Errorf("Done: % x", w.Done())
	}
}

// TestNearlyNoughts: one byte that is none, wherever it stands, and there is no hole.
func TestNearlyNoughts(t *testing.T) {
	for at := range 128 {
		b := make([]byte, 128)
		b[at] = 1
		p := newPair(newTable(), 64)
		p.add(t, "nearly noughts", b)
		if f, _ := frame.Put(newTable(), b); !bytes.Equal(p.fast.Done(), f) {
			t.Errorf("byte %d: % x", at, p.fast.Done())
		}
	}
	w := data.New(newTable(), 64)
	adds(t, "noughts over two blocks' ends", w, slices.Concat(letters("a")[:64], make([]byte, 128), letters("a")[:64]), 64, "")
	if b := w.Done(); bytes.Contains(b, []byte{0, 0, 255}) {
		t.Errorf("a hole: % x", b)
	}
}

// TestSameOrNot: only an Add whose blocks are all the same, in their order, is one ahead.
func TestSameOrNot(t *testing.T) {
	for _, x := range []struct {
		why, ahead, then string
		same             bool
	}{
		{"the same", "abc", "abc", true},
		{"another order", "abc", "acb", false},
		{"turned round", "abc", "cba", false},
		{"the beginning", "abc", "ab", false},
		{"the first one", "abc", "a", false},
		{"the end", "abc", "bc", false},
		{"the last one", "abc", "c", false},
		{"the midst", "abc", "b", false},
		{"more behind", "abc", "abcd", false},
		{"more ahead", "abc", "dabc", false},
		{"twice", "abc", "abcabc", false},
		{"one twice", "a", "aa", false},
		{"one twice, and once", "aa", "a", false},
		{"one changed", "abc", "abd", false},
		{"holes, the same", "\x00\x00", "\x00\x00", true},
		{"holes, fewer", "\x00\x00", "\x00", false},
		{"holes, more", "\x00", "\x00\x00", false},
		{"a hole ahead", "a", "\x00a", false},
		{"a hole behind", "a", "a\x00", false},
		{"a hole between", "ab", "a\x00b", false},
		{"a hole between, the same", "a\x00b", "a\x00b", true},
	} {
		for _, tail := range [][2]string{{"", ""}, {"", "t"}, {"t", ""}, {"t", "t"}, {"t", "u"}, {"t", "\x00"}} {
			w := data.New(newTable(), 64)
			ahead := append(letters(x.ahead), tail[0]...)
			then := append(letters(x.then), tail[1]...)
			adds(t, x.why, w, ahead, 64, tail[0])
			start := 64 + len(w.Done())
			if x.same {
				start = 64
			}
			adds(t, x.why, w, then, start, tail[1])
			adds(t, x.why+", ahead again", w, ahead, 64, tail[0])
			adds(t, x.why+", then again", w, then, start, tail[1])
		}
	}
}

// TestFramesOfNoAdd: what was laid down by Frame, or by two Adds one behind the other, is no Add's.
func TestFramesOfNoAdd(t *testing.T) {
	w := data.New(newTable(), 64)
	if at := w.Frame(letters("a")); at != 64 {
		t.Errorf("Frame: %d", at)
	}
	adds(t, "what Frame laid down", w, letters("a"), 75, "")
	adds(t, "what Frame laid down, again", w, letters("a"), 75, "")
	adds(t, "another", w, letters("b"), 86, "")
	adds(t, "two Adds", w, letters("ab"), 97, "")
	adds(t, "two Adds, again", w, letters("ab"), 97, "")
	if at := w.Frame(letters("c")); at != 119 {
		t.Errorf("Frame: %d", at)
	}
	adds(t, "an Add and a Frame", w, letters("abc"), 130, "")
	adds(t, "a Frame and the beginning of an Add", w, letters("ca"), 163, "")
	adds(t, "the end of an Add and the beginning of another", w, letters("cca"), 185, "")
	if n := len(w.Done()); n != 14*11 {
		t.Errorf("Done: %d bytes", n)
	}
}

// TestFirstSuch: of many Adds of the same blocks each has the place of the first.
func TestFirstSuch(t *testing.T) {
	p := newPair(newTable(), 64)
	for range 3 {
		for _, s := range []string{"a", "b", "ab", "ba", "a", "aa", "aaa", "b\x00", "\x00", "aa", "\x00b"} {
			p.add(t, "the first such", letters(s))
			p.add(t, "the first such, with a tail", append(letters(s), s...))
			p.frame(t, "between", letters(s)[:128])
		}
	}
}

// TestRowsOfCallsAreTheRule holds a writer against P12.1 over rows of calls that the same few blocks make up, so that many come again.
func TestRowsOfCallsAreTheRule(t *testing.T) {
	texts := []string{"", "a", "b", "\x00", "ab", "ba", "aa", "a\x00", "\x00a", "aba", "abab", "a\x00b", "baa", "\x00\x00"}
	for seed := range uint32(60) {
		p := newPair(tables()[seed%3], firsts()[int(seed)%len(firsts())])
		for i, c := range mixed(seed, 150, 4*len(texts)) {
			c--
			b := append(letters(texts[int(c)%len(texts)]), "tail"[:i%5]...)
			if int(c) >= 3*len(texts) && len(b) > 0 {
				p.frame(t, "a row of calls", b[:min(len(b), 128)])
			} else {
				p.add(t, "a row of calls", b)
			}
		}
	}
}

// P12.1: Frame.

func TestFrameOfSizes(t *testing.T) {
	for _, table := range tables() {
		p := newPair(table, 64)
		for n := 1; n <= 128; n++ {
			for _, b := range [][]byte{make([]byte, n), rising(n), mixed(uint32(n), n, 2), mixed(uint32(n), n, 255)} {
				p.frame(t, "of so many bytes", b)
				p.frame(t, "of so many bytes, again", b)
			}
		}
	}
}

// TestFrameOfNoughts: Frame lays frame.Put down, which is a hole of no bytes alone.
func TestFrameOfNoughts(t *testing.T) {
	w := data.New(newTable(), 64)
	adds(t, "a hole", w, make([]byte, 128), 64, "")
	if at := w.Frame(make([]byte, 128)); at != 67 {
		t.Errorf("Frame: %d", at)
	}
	if at := w.Frame([]byte{0}); at != 78 {
		t.Errorf("Frame: %d", at)
	}
	adds(t, "a hole again", w, make([]byte, 128), 64, "")
	f, _ := frame.Put(newTable(), make([]byte, 128))
	g, _ := frame.Put(newTable(), []byte{0})
	if want := slices.Concat([]byte{0, 0, 255}, f, g); !bytes.Equal(w.Done(), want) {
		t.Errorf("Done: % x, wanted % x", w.Done(), want)
	}
}

// TestFrameOfTooMany: what is not asked does not fail, and lays nothing down.
func TestFrameOfTooMany(t *testing.T) {
	w := data.New(newTable(), 64)
	w.Add(letters("a"))
	for _, n := range []int{129, 256, 4096, 5000} {
		w.Frame(make([]byte, n))
		w.Frame(rising(n))
	}
	if !bytes.Equal(w.Done(), frameOf(newTable(), letters("a"))) {
		t.Errorf("Done: % x", w.Done())
	}
	adds(t, "behind it", w, letters("b"), 75, "")
}

// TestFramesAreTaken: each place that Frame told has its bytes.
func TestFramesAreTaken(t *testing.T) {
	for _, first := range []int{0, 64, 200} {
		w := data.New(newTable(), first)
		var places []int
		for n := 1; n <= 128; n++ {
			places = append(places, w.Frame(rising(n)))
			w.Add(rising(2 * n))
		}
		image := append(mixed(1, first, 255), w.Done()...)
		for i, at := range places {
			if b, _, e := frame.Take(newTable(), image, at); !bytes.Equal(b, rising(i+1)) || e != api.OK {
				t.Errorf("%d bytes at %d: % x, %d", i+1, at, b, e)
			}
		}
	}
}
