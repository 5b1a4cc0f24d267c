package meta_test

import (
	"bytes"
	"math"
	"slices"
	"testing"

	"lamella/api"
	"lamella/crc"
	"lamella/frame"
	"lamella/meta"
)

// mixed is n bytes of an alphabet of so many letters, the same ones in each run of the tests.
func mixed(seed uint32, n, letters int) []byte {
	b := make([]byte, n)
	for i := range b {
		seed = seed*1664525 + 1013904223
		b[i] = byte(int(seed>>16) % letters)
	}
	return b
}

// rising is n bytes whose blocks pack to more, so that their frames are stored: each has 135 bytes.
func rising(n int) []byte {
	b := make([]byte, n)
	for i := range b {
		b[i] = byte(i)
	}
	return b
}

func newTable() *crc.Table {
	t := crc.New()
	return &t
}

// strange is a table of no rule.
func strange() *crc.Table {
	var t crc.Table
	for i := range t {
		t[i] = uint32(i)*2654435761 ^ 0x9e3779b9
	}
	return &t
}

func tables() []*crc.Table { return []*crc.Table{newTable(), strange(), {}} }

// layout is frames laid by hand, of blocks of any size, and where each begins.
func layout(t *testing.T, table *crc.Table, blocks ...[]byte) (frames []byte, places []int) {
	t.Helper()
	for _, b := range blocks {
		f, e := frame.Put(table, b)
		if e != api.OK {
			t.Fatalf("Put of %d bytes: %d", len(b), e)
		}
		places = append(places, len(frames))
		frames = append(frames, f...)
	}
	return frames, places
}

// slowDone is what P5.1 asks of all that was added, and slowRef the ref of what would come next.
func slowDone(t *testing.T, table *crc.Table, all []byte) []byte {
	t.Helper()
	frames, _ := layout(t, table, slices.Collect(slices.Chunk(all, 128))...)
	return frames
}

func slowRef(t *testing.T, table *crc.Table, all []byte) int {
	t.Helper()
	full := len(all) / 128 * 128
	return 256*len(slowDone(t, table, all[:full])) + len(all) - full
}

// source is what a reader is opened of.
type source struct {
	table    *crc.Table
	image    []byte
	from, to int
}

func of(frames []byte) source { return source{newTable(), frames, 0, len(frames)} }

func (s source) open() *meta.Reader { return meta.Open(s.table, s.image, s.from, s.to) }

func (s source) wrong() bool { return s.from < 0 || s.to > len(s.image) || s.from > s.to }

// slowRead is P5.2 byte by byte.
func (s source) slowRead(ref, n int) ([]byte, int, api.Errno) {
	if ref < 0 || n < 0 {
		return nil, 0, api.ErrArg
	}
	if s.wrong() {
		return nil, 0, api.ErrCorrupt
	}
	var out []byte
	for len(out) < n {
		held, next, e := frame.Take(s.table, s.image, s.from+ref/256)
		if e != api.OK || next > s.to || ref%256 >= len(held) {
			return nil, 0, api.ErrCorrupt
		}
		out = append(out, held[ref%256])
		if ref++; ref%256 == 128 {
			ref = 256 * (next - s.from)
		}
	}
	return out, ref, api.OK
}

func (s source) slowNext(ref int) (int, api.Errno) {
	if ref < 0 {
		return 0, api.ErrArg
	}
	if s.wrong() {
		return 0, api.ErrCorrupt
	}
	next, e := frame.Skip(s.image, s.from+ref/256)
	if e != api.OK || next > s.to {
		return 0, api.ErrCorrupt
	}
	return 256 * (next - s.from), api.OK
}

// likewise holds a reader's calls against P5.2 taken word by word.
func (s source) likewise(t *testing.T, r *meta.Reader, ref, n int) api.Errno {
	t.Helper()
	b, next, e := r.Read(ref, n)
	want, wantNext, wantE := s.slowRead(ref, n)
	if !bytes.Equal(b, want) || next != wantNext || e != wantE {
		t.Fatalf("Read(%d, %d) from %d to %d: % x, %d, %d, wanted % x, %d, %d", ref, n, s.from, s.to, b, next, e, want, wantNext, wantE)
	}
	on, onE := r.Next(ref)
	if wantOn, wantOnE := s.slowNext(ref); on != wantOn || onE != wantOnE {
		t.Fatalf("Next(%d) from %d to %d: %d, %d, wanted %d, %d", ref, s.from, s.to, on, onE, wantOn, wantOnE)
	}
	return e
}

func reads(t *testing.T, why string, r *meta.Reader, ref, n int, want []byte, next int) {
	t.Helper()
	if b, x, e := r.Read(ref, n); !bytes.Equal(b, want) || x != next || e != api.OK {
		t.Errorf("%s: Read(%d, %d): % x, %d, %d, wanted % x, %d", why, ref, n, b, x, e, want, next)
	}
}

func readsNot(t *testing.T, why string, r *meta.Reader, ref, n int, want api.Errno) {
	t.Helper()
	if b, x, e := r.Read(ref, n); b != nil || x != 0 || e != want {
		t.Errorf("%s: Read(%d, %d): % x, %d, %d, wanted %d", why, ref, n, b, x, e, want)
	}
}

func goesOn(t *testing.T, why string, r *meta.Reader, ref, next int) {
	t.Helper()
	if x, e := r.Next(ref); x != next || e != api.OK {
		t.Errorf("%s: Next(%d): %d, %d, wanted %d", why, ref, x, e, next)
	}
}

func goesNot(t *testing.T, why string, r *meta.Reader, ref int, want api.Errno) {
	t.Helper()
	if x, e := r.Next(ref); x != 0 || e != want {
		t.Errorf("%s: Next(%d): %d, %d, wanted %d", why, ref, x, e, want)
	}
}

func TestExampleOfTheChapter(t *testing.T) {
	table := newTable()
	w := meta.New(table)
	if a, b := w.Add([]byte("abc")), w.Add([]byte("de")); a != 0 || b != 3 {
		t.Errorf("Add: %d, %d", a, b)
	}
	done := w.Done()
	r := meta.Open(table, done, 0, len(done))
	reads(t, "within", r, 1, 3, []byte("bcd"), 4)
	readsNot(t, "one behind the last", r, 4, 2, api.ErrCorrupt)
}

// P5.1.

func TestRowWithoutBytes(t *testing.T) {
	for _, table := range append(tables(), nil) {
		w := meta.New(table)
		for range 3 {
			if b := w.Done(); len(b) != 0 {
				t.Errorf("Done: % x", b)
			}
			if a, b := w.Add(nil), w.Add([]byte{}); a != 0 || b != 0 {
				t.Errorf("Add of no bytes: %d, %d", a, b)
			}
		}
	}
}

func TestRefsTable(t *testing.T) {
	const second, third = 256 * 135, 256 * 270
	for _, x := range []struct {
		sizes, refs []int
		done        int // how many bytes the frames have, all of them stored
	}{
		{[]int{1, 0}, []int{0, 1}, 8},
		{[]int{127, 0, 1, 0}, []int{0, 127, 127, second}, 135},
		{[]int{128, 0}, []int{0, second}, 135},
		{[]int{128, 1, 0}, []int{0, second, second + 1}, 135 + 8},
		{[]int{129, 0}, []int{0, second + 1}, 135 + 8},
		{[]int{255, 0}, []int{0, second + 127}, 135 + 134},
		{[]int{256, 0}, []int{0, third}, 270},
		{[]int{257, 0}, []int{0, third + 1}, 270 + 8},
		{[]int{100, 40, 116, 0}, []int{0, 100, second + 12, third}, 270},
		{[]int{64, 64, 64, 64, 0}, []int{0, 64, second, second + 64, third}, 270},
		{[]int{0, 0, 5, 0, 0, 5, 0}, []int{0, 0, 0, 5, 5, 5, 10}, 17},
		{[]int{0, 128, 0, 0, 128, 0, 0}, []int{0, 0, second, second, second, third, third}, 270},
	} {
		w := meta.New(newTable())
		rest := rising(1000)
		var refs []int
		for _, n := range x.sizes {
			refs = append(refs, w.Add(rest[:n]))
			rest = rest[n:]
		}
		if done := len(w.Done()); !slices.Equal(refs, x.refs) || done != x.done {
			t.Errorf("%d: refs %d, wanted %d; %d bytes, wanted %d", x.sizes, refs, x.refs, done, x.done)
		}
	}
}

// TestRefsOfPackedFrames: places are counted in bytes of frames, which hang on how well their blocks pack.
func TestRefsOfPackedFrames(t *testing.T) {
	w := meta.New(newTable())
	w.Add(make([]byte, 128)) // 4 bytes of payload
	if ref := w.Add(rising(128)); ref != 256*11 {
		t.Errorf("behind a packed frame: %d", ref)
	}
	if ref := w.Add(nil); ref != 256*(11+135) {
		t.Errorf("behind a packed frame and a stored one: %d", ref)
	}
}

// split is bytes cut into rows: of these sizes, again and again.
func split(b []byte, sizes []int) [][]byte {
	var rows [][]byte
	for i := 0; len(b) > 0; i++ {
		n := min(sizes[i%len(sizes)], len(b))
		rows = append(rows, b[:n])
		b = b[n:]
	}
	return append(rows, nil)
}

func cuts() [][]int {
	return [][]int{{5000}, {1}, {127}, {128}, {129}, {256}, {127, 1}, {1, 127}, {127, 129}, {129, 127}, {128, 128, 0}, {0, 3, 0, 0, 130}, {64}, {7, 300, 11}}
}

func contents() [][]byte {
	var all [][]byte
	for _, n := range []int{0, 1, 2, 127, 128, 129, 255, 256, 257, 384, 1000} {
		all = append(all, make([]byte, n), rising(n))
		for _, letters := range []int{2, 5, 256} {
			all = append(all, mixed(uint32(n+letters), n, letters))
		}
	}
	return all
}

// TestRowsAreTheRule holds refs and frames against P5.1 at each step, with Done ahead of each Add.
func TestRowsAreTheRule(t *testing.T) {
	for _, table := range tables() {
		for _, all := range contents() {
			for _, sizes := range cuts() {
				if len(sizes) == 1 && sizes[0] == 1 && len(all) > 257 {
					continue // as many steps as bytes, each with all frames made anew, twice
				}
				w := meta.New(table)
				at := 0
				for _, row := range split(all, sizes) {
					if want := slowDone(t, table, all[:at]); !bytes.Equal(w.Done(), want) || !bytes.Equal(w.Done(), want) {
						t.Fatalf("Done of %d bytes: % x, wanted % x", at, w.Done(), want)
					}
					if ref, want := w.Add(row), slowRef(t, table, all[:at]); ref != want {
						t.Fatalf("Add behind %d bytes: %d, wanted %d", at, ref, want)
					}
					at += len(row)
				}
				if done := w.Done(); !bytes.Equal(done, slowDone(t, table, all)) {
					t.Fatalf("Done of all: % x", done)
				}
			}
		}
	}
}

func TestWritersGoTheirOwnWays(t *testing.T) {
	table := newTable()
	v, w := meta.New(table), meta.New(table)
	v.Add([]byte("abc"))
	if ref := w.Add(rising(130)); ref != 0 {
		t.Error(ref)
	}
	if ref := v.Add([]byte("de")); ref != 3 || !bytes.Equal(v.Done(), slowDone(t, table, []byte("abcde"))) {
		t.Errorf("%d, % x", ref, v.Done())
	}
	if !bytes.Equal(w.Done(), slowDone(t, table, rising(130))) {
		t.Errorf("% x", w.Done())
	}
}

// P5.2: arguments.

func TestBelowNought(t *testing.T) {
	frames, _ := layout(t, newTable(), rising(128), []byte("end"))
	wide, long := of(frames), of(frames)
	wide.from, long.to = -1, len(frames)+1
	for _, s := range []source{of(frames), of(nil), wide, long} {
		r := s.open()
		for _, x := range [][2]int{{-1, 0}, {-1, 1}, {0, -1}, {-1, -1}, {-256, 1}, {-257, 0}, {math.MinInt, 1}, {0, math.MinInt}, {math.MinInt, math.MinInt}, {math.MaxInt, -1}} {
			readsNot(t, "below 0", r, x[0], x[1], api.ErrArg)
		}
		for _, ref := range []int{-1, -128, -255, -256, -257, math.MinInt} {
			goesNot(t, "below 0", r, ref, api.ErrArg)
		}
	}
}

func TestNoBytes(t *testing.T) {
	frames, places := layout(t, newTable(), rising(128), nil, []byte("end"))
	turned := slices.Clone(frames)
	turned[40] ^= 1
	for _, s := range []source{of(frames), of(turned), of(nil), {newTable(), frames, 7, 7}} {
		r := s.open()
		for _, ref := range []int{0, 1, 127, 128, 130, 255, 256, 256 * places[1], 256*places[2] + 2, 256*places[2] + 3, 256 * len(frames), 256*len(frames) + 256, 7777, 1 << 40, math.MaxInt} {
			reads(t, "no bytes", r, ref, 0, nil, ref)
		}
	}
}

func TestFromAndTo(t *testing.T) {
	frames, places := layout(t, newTable(), rising(128), []byte("end"))
	image := slices.Concat([]byte("ahead"), frames, []byte("behind"))
	from, to := 5, 5+len(frames)
	for _, x := range [][2]int{{-1, to}, {-1, 0}, {-1, -1}, {math.MinInt, to}, {math.MinInt, math.MinInt}, {from, len(image) + 1}, {len(image) + 1, len(image) + 1}, {from, math.MaxInt}, {math.MaxInt, math.MaxInt}, {from, from - 1}, {to, from}, {from, -1}, {from, math.MinInt}, {math.MaxInt, to}, {math.MaxInt, math.MinInt}} {
		// What would be read stands in the spare room, which is not looked at.
		for _, room := range [][]byte{slices.Clip(image), append(image, frames...)[:len(image)]} {
			r := meta.Open(newTable(), room, x[0], x[1])
			for _, ref := range []int{0, 1, 256 * places[1], 7777} {
				for n := range 3 {
					readsNot(t, "from and to", r, ref, n, api.ErrCorrupt)
				}
				goesNot(t, "from and to", r, ref, api.ErrCorrupt)
			}
		}
	}
	for _, x := range [][2]int{{0, 0}, {5, 5}, {len(image), len(image)}} {
		r := meta.Open(newTable(), image, x[0], x[1])
		readsNot(t, "no frame", r, 0, 1, api.ErrCorrupt)
		goesNot(t, "no frame", r, 0, api.ErrCorrupt)
		reads(t, "no frame, no bytes", r, 0, 0, nil, 0)
	}
	reads(t, "to the image's end", meta.Open(newTable(), image, from, len(image)), 0, 131, append(rising(128), "end"...), 256*places[1]+3)
}

// P5.2: what is read.

func TestReadTable(t *testing.T) {
	all := append(rising(256), "abc"...)
	const second, third = 256 * 135, 256 * 270
	r := of(slowDone(t, newTable(), all)).open()
	for _, x := range []struct {
		why             string
		ref, n, at, end int
	}{
		{"the first byte", 0, 1, 0, 1},
		{"up to the last but one of a frame", 0, 127, 0, 127},
		{"just to the last one of a frame", 0, 128, 0, second},
		{"one further", 0, 129, 0, second + 1},
		{"the last one of a frame", 127, 1, 127, second},
		{"the last one of a frame, and one", 127, 2, 127, second + 1},
		{"from one frame's midst to another's", 100, 100, 100, second + 72},
		{"the second frame", second, 128, 128, third},
		{"from a frame's midst to the next one's end", 3, 253, 3, third},
		{"the last of the second frame", second + 127, 1, 255, third},
		{"over the whole second frame", 127, 130, 127, third + 1},
		{"all", 0, 259, 0, third + 3},
		{"the last byte", third + 2, 1, 258, third + 3},
		{"the last frame", third, 3, 256, third + 3},
	} {
		for range 2 {
			reads(t, x.why, r, x.ref, x.n, all[x.at:x.at+x.n], x.end)
		}
	}
	for _, x := range []struct {
		why    string
		ref, n int
	}{
		{"one behind the last", third + 3, 1},
		{"the last byte, and one behind it", third + 2, 2},
		{"all, and one behind", 0, 260},
		{"one frame's end to behind the row's", 127, 133},
		{"as many as there can be", 0, math.MaxInt},
		{"as many as there can be, from a midst", second + 1, math.MaxInt},
		{"no place", 256, 1},
		{"no place, the last but one", 256 * 269, 1},
		{"behind the last frame", 256 * (270 + 7 + 3), 1},
		{"far behind", 1 << 40, 1},
		{"as far as can be", math.MaxInt, 1},
		{"as far as can be, as many", math.MaxInt, math.MaxInt},
	} {
		readsNot(t, x.why, r, x.ref, x.n, api.ErrCorrupt)
	}
}

func TestNumbersAboveWhatTheFrameHolds(t *testing.T) {
	for size := 1; size <= 128; size++ {
		frames, places := layout(t, newTable(), rising(128), rising(size))
		r := of(frames).open()
		for number := range 256 {
			why, ref := "of a frame", 256*places[1]+number
			end := ref + 1
			if end%256 == 128 {
				end = 256 * len(frames)
			}
			if number < size {
				reads(t, why, r, ref, 1, []byte{byte(number)}, end)
			} else {
				readsNot(t, why, r, ref, 1, api.ErrCorrupt)
			}
			if number > 127 {
				readsNot(t, "of a full frame", r, number, 1, api.ErrCorrupt)
			}
			reads(t, why+", no bytes", r, ref, 0, nil, ref)
			goesOn(t, why, r, ref, 256*len(frames))
		}
	}
}

func TestRowThatEndsWithAFullFrame(t *testing.T) {
	for _, all := range [][]byte{rising(256), make([]byte, 256)} {
		frames := slowDone(t, newTable(), all)
		r, end := of(frames).open(), 256*len(frames)
		reads(t, "to the end", r, 0, 256, all, end)
		readsNot(t, "one further", r, 0, 257, api.ErrCorrupt)
		reads(t, "no bytes at the end", r, end, 0, nil, end)
		readsNot(t, "a byte at the end", r, end, 1, api.ErrCorrupt)
		goesNot(t, "at the end", r, end, api.ErrCorrupt)
	}
}

func TestFrameThatEndsBehindTo(t *testing.T) {
	blocks := [][]byte{rising(128), make([]byte, 128), mixed(1, 128, 256), []byte("end")}
	frames, places := layout(t, newTable(), blocks...)
	ends := append(slices.Clone(places[1:]), len(frames))
	image := slices.Concat([]byte("ahead"), frames, []byte("behind"))
	for to := 5; to <= len(image); to++ {
		r := meta.Open(newTable(), image, 5, to)
		for i, b := range blocks {
			ref, end := 256*places[i], 256*ends[i]
			if len(b) < 128 {
				end = ref + len(b)
			}
			if 5+ends[i] <= to {
				reads(t, "ends at to or ahead", r, ref, len(b), b, end)
				goesOn(t, "ends at to or ahead", r, ref, 256*ends[i])
			} else {
				readsNot(t, "ends behind to", r, ref, 1, api.ErrCorrupt)
				readsNot(t, "ends behind to", r, ref, len(b), api.ErrCorrupt)
				goesNot(t, "ends behind to", r, ref, api.ErrCorrupt)
			}
		}
	}
}

func TestHoles(t *testing.T) {
	frames, places := layout(t, newTable(), rising(128), nil, rising(128), nil)
	r := of(frames).open()
	for _, i := range []int{1, 3} {
		hole := 256 * places[i]
		for number := range 256 {
			for _, n := range []int{1, 2, 128, 129} {
				readsNot(t, "a hole", r, hole+number, n, api.ErrCorrupt)
			}
			goesOn(t, "a hole", r, hole+number, hole+3*256)
		}
		reads(t, "a hole, no bytes", r, hole, 0, nil, hole)
	}
	reads(t, "up to a hole", r, 0, 128, rising(128), 256*places[1])
	readsNot(t, "into a hole", r, 0, 129, api.ErrCorrupt)
	readsNot(t, "over a hole", r, 0, 256, api.ErrCorrupt)
	reads(t, "behind a hole", r, 256*places[2], 128, rising(128), 256*places[3])
}

func TestFramesThatAreNotFull(t *testing.T) {
	for size := 1; size < 128; size++ {
		blocks := [][]byte{rising(128), rising(size), rising(128), rising(128)}
		frames, places := layout(t, newTable(), blocks...)
		r := of(frames).open()
		short := 256 * places[1]
		reads(t, "the last one that is needed", r, 0, 128+size, slices.Concat(blocks[0], blocks[1]), short+size)
		reads(t, "the last one that is needed, alone", r, short, size, blocks[1], short+size)
		for more := 1; more < 130; more += 32 {
			readsNot(t, "not the last one", r, 0, 128+size+more, api.ErrCorrupt)
			readsNot(t, "not the last one, alone", r, short, size+more, api.ErrCorrupt)
			readsNot(t, "not the last one, its last byte", r, short+size-1, 1+more, api.ErrCorrupt)
			readsNot(t, "behind its last byte", r, short+size, more, api.ErrCorrupt)
		}
		reads(t, "behind it", r, 256*places[2], 256, slices.Concat(blocks[2], blocks[3]), 256*len(frames))
		goesOn(t, "over it", r, short, 256*places[2])
	}
}

// TestEachByteTurned: what needs the frame is refused, what does not is read, and Next looks at heads alone.
func TestEachByteTurned(t *testing.T) {
	blocks := [][]byte{rising(128), make([]byte, 128), mixed(4, 128, 3), []byte("end")}
	frames, places := layout(t, newTable(), blocks...)
	ends := append(slices.Clone(places[1:]), len(frames))
	whole := slices.Concat(blocks...)
	for at := range frames {
		hit := 0
		for at >= ends[hit] {
			hit++
		}
		for _, by := range []byte{1, 2, 127, 128, 255} {
			turned := slices.Clone(frames)
			turned[at] ^= by
			r := of(turned).open()
			for i, b := range blocks {
				ref := 256 * places[i]
				if i == hit {
					readsNot(t, "turned", r, ref, 1, api.ErrCorrupt)
					readsNot(t, "turned", r, ref+len(b)-1, 1, api.ErrCorrupt)
				} else {
					reads(t, "another one is turned", r, ref, 2, b[:2], ref+2)
				}
				if i == hit && at < places[i]+3 {
					goesNot(t, "its head is turned", r, ref, api.ErrCorrupt)
				} else {
					goesOn(t, "its head is not turned", r, ref, 256*ends[i])
				}
			}
			readsNot(t, "all", r, 0, len(whole), api.ErrCorrupt)
			if hit > 0 {
				reads(t, "up to the turned one", r, 0, 128*hit, whole[:128*hit], 256*places[hit])
				readsNot(t, "into the turned one", r, 0, 128*hit+1, api.ErrCorrupt)
			}
		}
	}
}

func TestAnotherTable(t *testing.T) {
	frames, _ := layout(t, strange(), rising(128), []byte("end"))
	r := of(frames).open()
	readsNot(t, "another table's sums", r, 0, 1, api.ErrCorrupt)
	goesOn(t, "another table's sums", r, 0, 256*135)
	s := of(frames)
	s.table = strange()
	reads(t, "by that table", s.open(), 127, 4, []byte("\x7fend"), 256*135+3)
}

// TestFrameWithinAFrame: a ref is of any place at which a frame stands.
func TestFrameWithinAFrame(t *testing.T) {
	inner, _ := layout(t, newTable(), []byte("ab"))
	outer := slices.Concat(rising(210)[200:], inner, rising(128)[:128-10-len(inner)])
	frames, _ := layout(t, newTable(), outer, []byte("end"))
	if len(frames) != 135+10 {
		t.Fatalf("not stored: %d", len(frames))
	}
	r := of(frames).open()
	reads(t, "the outer one", r, 0, 130, append(slices.Clone(outer), "en"...), 256*135+2)
	reads(t, "the inner one", r, 256*17, 2, []byte("ab"), 256*17+2)
	readsNot(t, "the inner one, and more", r, 256*17, 3, api.ErrCorrupt)
	goesOn(t, "the inner one", r, 256*17, 256*(17+9))
	reads(t, "the outer one again", r, 0, 128, outer, 256*135)
}

// TestAheadAndBehind: refs are the same wherever the frames stand, also between other frames.
func TestAheadAndBehind(t *testing.T) {
	all := append(rising(256), "abc"...)
	frames := slowDone(t, newTable(), all)
	other, _ := layout(t, newTable(), mixed(9, 128, 256))
	for _, ahead := range [][]byte{nil, []byte("a"), other, {0, 0, 255}, mixed(3, 1000, 256)} {
		for _, behind := range [][]byte{nil, []byte("b"), other, {0, 0, 255}, mixed(5, 1000, 256)} {
			image := slices.Concat(ahead, frames, behind)
			s := source{newTable(), image, len(ahead), len(ahead) + len(frames)}
			r := s.open()
			reads(t, "all", r, 0, 259, all, 256*270+3)
			readsNot(t, "behind the last", r, 256*270+3, 1, api.ErrCorrupt)
			readsNot(t, "what stands behind", r, 256*len(frames), 1, api.ErrCorrupt)
			goesNot(t, "what stands behind", r, 256*len(frames), api.ErrCorrupt)
			for ref := 0; ref < 256*(len(frames)+2); ref += 41 {
				s.likewise(t, r, ref, 1)
			}
		}
	}
	image := slices.Concat(frames, other)
	reads(t, "to goes further", of(image).open(), 256*len(frames), 128, mixed(9, 128, 256), 256*len(image))
}

// P5.2: Next.

func TestNextFromFrameToFrame(t *testing.T) {
	for _, all := range contents() {
		frames := slowDone(t, newTable(), all)
		r := source{newTable(), slices.Concat([]byte("ahead"), frames, []byte{0, 0, 255}), 5, 5 + len(frames)}.open()
		ref, many := 0, 0
		for ref < 256*len(frames) {
			next, e := r.Next(ref)
			if e != api.OK || next <= ref {
				t.Fatalf("Next(%d): %d, %d", ref, next, e)
			}
			for number := range 256 {
				goesOn(t, "at a ref within a frame", r, ref+number, next)
			}
			if next < 256*len(frames) {
				reads(t, "to the next frame", r, ref, 128, all[128*many:128*many+128], next)
			}
			ref = next
			many++
		}
		if want := (len(all) + 127) / 128; ref != 256*len(frames) || many != want {
			t.Errorf("%d frames, wanted %d", many, want)
		}
		for _, x := range []int{ref, ref + 1, ref + 255, ref + 256, 1 << 40, math.MaxInt} {
			goesNot(t, "at the end", r, x, api.ErrCorrupt)
		}
	}
}

// TestAnyImage holds one reader against P5.2 word by word, at many refs of images of frames, of which some bytes are turned; each is asked again.
func TestAnyImage(t *testing.T) {
	told := map[api.Errno]int{}
	for seed := uint32(0); seed < 60; seed++ {
		s := source{table: tables()[seed%3]}
		var blocks [][]byte
		for i, c := range mixed(seed, 6, 256) {
			size := 128
			if c%4 == 0 {
				size = int(c) / 2
			}
			blocks = append(blocks, mixed(seed*7+uint32(i), size, 1+int(c)%5))
		}
		frames, places := layout(t, s.table, blocks...)
		s.from = int(seed) % 9
		s.image = slices.Concat(mixed(seed, s.from, 256), frames, []byte{0, 0, 255})
		s.to = s.from + len(frames) - int(seed%5)/4*20
		for i, c := range mixed(seed+1000, int(seed%3), 256) {
			s.image[(i*97+int(c)*3)%len(s.image)] ^= c
		}
		r := s.open()
		sizes := mixed(seed+2000, 40, 256)
		for again := range 2 {
			for i, n := range sizes {
				place := places[i%len(places)]
				told[s.likewise(t, r, 256*place+int(n)%130, int(sizes[again])*i%400)]++
				told[s.likewise(t, r, 256*place, int(n)*2)]++
				told[s.likewise(t, r, int(n)*911-2000, i%3)]++
			}
		}
	}
	if told[api.OK] < 1000 || told[api.ErrCorrupt] < 1000 || told[api.ErrArg] < 30 {
		t.Errorf("too few of one kind: %d", told)
	}
}

func TestEachPlaceOfSomeImages(t *testing.T) {
	for seed := uint32(0); seed < 6; seed++ {
		frames, _ := layout(t, newTable(), rising(128), nil, mixed(seed, 128, 3), mixed(seed, 5, 3))
		if seed > 2 {
			frames[seed*40] ^= 4
		}
		s := source{newTable(), slices.Concat([]byte{0, 0}, frames, frames), 2, 2 + len(frames)}
		r := s.open()
		for place := range len(s.image) + 3 {
			for _, number := range []int{0, 1, 4, 5, 126, 127, 128, 255} {
				for _, n := range []int{0, 1, 2, 128, 129, 300} {
					s.likewise(t, r, 256*place+number, n)
				}
			}
		}
	}
}

// P5.3.

func TestWhatWasAddedIsRead(t *testing.T) {
	for _, table := range tables() {
		for _, all := range contents() {
			for _, sizes := range cuts() {
				w := meta.New(table)
				var refs []int
				rows := split(all, sizes)
				for _, row := range rows {
					refs = append(refs, w.Add(row))
				}
				done := w.Done()
				s := source{table, slices.Concat([]byte("ahead"), done, []byte("behind")), 5, 5 + len(done)}
				r := s.open()
				for i := len(rows) - 1; i >= 0; i-- { // not in their order
					next := refs[len(refs)-1]
					if i+1 < len(refs) {
						next = refs[i+1]
					}
					reads(t, "a row", r, refs[i], len(rows[i]), rows[i], next)
				}
				reads(t, "all rows", r, 0, len(all), all, refs[len(refs)-1])
				readsNot(t, "all rows, and one byte", r, 0, len(all)+1, api.ErrCorrupt)
			}
		}
	}
}

// TestWhatWasAddedIsReadOfEachDone: a ref goes on naming its byte when more is added.
func TestWhatWasAddedIsReadOfEachDone(t *testing.T) {
	table := newTable()
	w := meta.New(table)
	var refs []int
	var rows [][]byte
	for i := range 60 {
		rows = append(rows, mixed(uint32(i), i*7%50, 1+i%4))
		refs = append(refs, w.Add(rows[i]))
		r := of(w.Done()).open()
		for k, row := range rows {
			b, _, e := r.Read(refs[k], len(row))
			if !bytes.Equal(b, row) || e != api.OK {
				t.Fatalf("row %d of %d: % x, %d", k, i, b, e)
			}
		}
	}
}

func TestWhatWasAddedIsReadFarBehind(t *testing.T) {
	w := meta.New(newTable())
	w.Add(mixed(7, 1<<20, 256))
	ref := w.Add([]byte("far"))
	r := of(w.Done()).open()
	reads(t, "far behind", r, ref, 3, []byte("far"), ref+3)
	b, next, e := r.Read(0, 1<<20+3)
	if !bytes.Equal(b, append(mixed(7, 1<<20, 256), "far"...)) || next != ref+3 || e != api.OK {
		t.Errorf("all: %d bytes, %d, %d", len(b), next, e)
	}
}

// R7.

// spoil turns all bytes of a list, those of its spare room too.
func spoil(b []byte) {
	for i := range b[:cap(b)] {
		b[:cap(b)][i] ^= 255
	}
}

func TestWhatIsHandedInStays(t *testing.T) {
	table, same := newTable(), crc.New()
	for _, all := range contents() {
		room := append(slices.Clone(all), bytes.Repeat([]byte{77}, 200)...)
		was := slices.Clone(room)
		w := meta.New(table)
		w.Add(room[:len(all)])
		w.Add(room[:len(all)])
		done := w.Done()
		if !bytes.Equal(room, was) {
			t.Fatal("Add changed its bytes")
		}
		image := append(slices.Clone(done), bytes.Repeat([]byte{77}, 200)...)
		was = slices.Clone(image)
		r := meta.Open(table, image[:len(done)], 0, len(done))
		if _, _, e := r.Read(0, 2*len(all)); e != api.OK {
			t.Fatal(e)
		}
		r.Next(0)
		if !bytes.Equal(image, was) {
			t.Fatal("the image changed")
		}
	}
	if *table != same {
		t.Error("the table changed")
	}
}

func TestWhatIsHandedInIsNotKept(t *testing.T) {
	for _, all := range contents() {
		in := slices.Clone(all)
		w := meta.New(newTable())
		w.Add(in)
		spoil(in)
		frames := slowDone(t, newTable(), all)
		if !bytes.Equal(w.Done(), frames) {
			t.Fatal("Add kept its bytes")
		}
		image := slices.Clone(frames)
		r, fresh := of(image).open(), of(image).open()
		_, next, _ := r.Read(0, len(all))
		spoil(image)
		reads(t, "again", r, 0, len(all), all, next)
		reads(t, "first", fresh, 0, len(all), all, next)
		if len(all) > 0 {
			on, _ := of(frames).open().Next(0)
			goesOn(t, "first", fresh, 0, on)
		}
	}
}

func TestAnswersAreTheCallersOwn(t *testing.T) {
	for _, all := range contents() {
		w := meta.New(newTable())
		w.Add(all)
		done := w.Done()
		was := slices.Clone(done)
		r := of(done).open()
		spoil(done)
		if !bytes.Equal(w.Done(), was) {
			t.Fatal("Done's answer is the writer's")
		}
		first := w.Done()
		w.Add(rising(300))
		if !bytes.Equal(first, was) {
			t.Fatal("Add changed what Done answered")
		}
		for n := 1; n <= len(all); n += 50 {
			b, next, _ := r.Read(0, n)
			spoil(b)
			reads(t, "a spoilt answer", r, 0, n, all[:n], next)
		}
	}
}

// TestTableIsShared: the sums are looked at by the table as it stands, also of a frame that was read ahead.
func TestTableIsShared(t *testing.T) {
	for _, table := range tables() {
		was := *table
		frames, _ := layout(t, table, rising(128), []byte("end"))
		r := meta.Open(table, frames, 0, len(frames))
		for range 2 {
			reads(t, "the table", r, 127, 2, []byte("\x7fe"), 256*135+1)
			for i := range table {
				table[i] += 9
			}
			readsNot(t, "the table, changed", r, 127, 2, api.ErrCorrupt)
			readsNot(t, "the table, changed", r, 0, 1, api.ErrCorrupt)
			goesOn(t, "the table, changed", r, 0, 256*135)
			*table = was
		}
	}
}
