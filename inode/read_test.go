package inode_test

import (
	"bytes"
	"math"
	"slices"
	"strings"
	"testing"

	"lamella/api"
	"lamella/crc"
	"lamella/frame"
	"lamella/inode"
	"lamella/meta"
)

func newTable() *crc.Table {
	t := crc.New()
	return &t
}

// strange is a table of no rule.
func strange() *crc.Table {
	var t crc.Table
	for i := range t {
		t[i] = uint32(i)*2654435761 ^ 0x9e3779b9
	}
	return &t
}

func open(frames []byte) *meta.Reader { return meta.Open(newTable(), frames, 0, len(frames)) }

// rowOf is a row of parts, their refs, and, behind these, that of what would come next.
func rowOf(parts ...[]byte) (frames []byte, refs []int) {
	w := meta.New(newTable())
	for _, b := range parts {
		refs = append(refs, w.Add(b))
	}
	return w.Done(), append(refs, w.Add(nil))
}

// recordsRow is a row of records, as Put writes them.
func recordsRow(t *testing.T, l []api.Inode) (frames []byte, refs []int) {
	t.Helper()
	var parts [][]byte
	for _, i := range l {
		b, e := inode.Put(i)
		if e != api.OK {
			t.Fatalf("Put of %+v: %d", i, e)
		}
		parts = append(parts, b)
	}
	return rowOf(parts...)
}

// blocksOf is frames laid by hand, of blocks of any size.
func blocksOf(t *testing.T, blocks ...[]byte) (frames []byte) {
	t.Helper()
	for _, b := range blocks {
		f, e := frame.Put(newTable(), b)
		if e != api.OK {
			t.Fatalf("Put of %d bytes: %d", len(b), e)
		}
		frames = append(frames, f...)
	}
	return frames
}

func reads(t *testing.T, why string, r *meta.Reader, ref int, want api.Inode, wantNext int) {
	t.Helper()
	if i, next, e := inode.Read(r, ref); i != want || next != wantNext || e != api.OK {
		t.Errorf("%s: Read(%d): %+v, %d, %d, wanted %+v, %d", why, ref, i, next, e, want, wantNext)
	}
}

func readsNot(t *testing.T, why string, r *meta.Reader, ref int) {
	t.Helper()
	if i, next, e := inode.Read(r, ref); i != (api.Inode{}) || next != 0 || e != api.ErrCorrupt {
		t.Errorf("%s: Read(%d): %+v, %d, %d, wanted ErrCorrupt", why, ref, i, next, e)
	}
}

// slowRead asks for the Kind, then for as many bytes as it has.
func slowRead(r *meta.Reader, ref int) (api.Inode, int, api.Errno) {
	none := func() (api.Inode, int, api.Errno) { return api.Inode{}, 0, api.ErrCorrupt }
	first, _, e := r.Read(ref, 1)
	if e != api.OK {
		return none()
	}
	n := map[byte]int{1: 21, 2: 22, 3: 14}[first[0]]
	b, next, e := r.Read(ref, n)
	if e == api.OK && first[0] == 3 {
		b, next, e = r.Read(ref, 14+int(b[13]))
	}
	if e != api.OK {
		return none()
	}
	i, e := slowTake(b)
	if e != api.OK {
		return none()
	}
	return i, next, api.OK
}

// readsAsAsked holds Read against P9.1 taken word by word.
func readsAsAsked(t *testing.T, why string, r *meta.Reader, ref int) api.Errno {
	t.Helper()
	want, next, e := slowRead(r, ref)
	if e == api.OK {
		reads(t, why, r, ref, want, next)
	} else {
		readsNot(t, why, r, ref)
	}
	return e
}

// P9.1 and P9.2: Read.

// TestReadOfARow goes from record to record, then asks for each by its ref, backwards, of one reader and of new ones.
func TestReadOfARow(t *testing.T) {
	l := records()
	frames, refs := recordsRow(t, l)
	r, ref := open(frames), 0
	for at, want := range l {
		i, next, e := inode.Read(r, ref)
		if i != want || next != refs[at+1] || e != api.OK {
			t.Fatalf("record %d: %+v, %d, %d, wanted %+v, %d", at, i, next, e, want, refs[at+1])
		}
		ref = next
	}
	readsNot(t, "behind the last one", r, ref)
	for at := len(l) - 1; at >= 0; at-- {
		reads(t, "backwards", r, refs[at], l[at], refs[at+1])
		reads(t, "of a new reader", open(frames), refs[at], l[at], refs[at+1])
	}
}

// TestReadWithinAFrame: refs of small rows, by hand.
func TestReadWithinAFrame(t *testing.T) {
	l := []api.Inode{aDir(), aFile(), {Kind: api.Link, Links: 1, Target: "ab"}, aWhole()}
	frames, _ := recordsRow(t, l)
	r := open(frames)
	reads(t, "a directory", r, 0, l[0], 21)
	reads(t, "a file", r, 21, l[1], 43)
	reads(t, "a link", r, 43, l[2], 59)
	reads(t, "the last one", r, 59, l[3], 81)
	readsNot(t, "behind the last one", r, 81)
	readsNot(t, "behind the last frame", r, 256*len(frames))
	// a record that ends with its frame leads to the next frame, also if there is none
	link := withTarget(aLink(), strings.Repeat("x", 128-81-14))
	frames, _ = recordsRow(t, append(l, link))
	r = open(frames)
	reads(t, "at a frame's end", r, 81, link, 256*len(frames))
	readsNot(t, "where no frame is", r, 256*len(frames))
	second := 256 * len(frames)
	frames, _ = recordsRow(t, append(l, link, aDir()))
	r = open(frames)
	reads(t, "at a frame's end", r, 81, link, second)
	reads(t, "at a frame's beginning", r, second, aDir(), second+21)
}

// TestReadAtAnyPlace: each record begins at each place of a frame, and ends in it, at its end, or in a later one.
func TestReadAtAnyPlace(t *testing.T) {
	for _, i := range append(ends(), aDir(), aFile(), aWhole(), aLink(), withTarget(aLink(), strings.Repeat("to", 60))) {
		for ahead := range 260 {
			for behind := range 3 {
				frames, refs := rowOf(mixed(7, ahead), laid(i), mixed(8, behind))
				reads(t, "a place", open(frames), refs[1], i, refs[2])
				readsAsAsked(t, "behind it", open(frames), refs[2])
			}
		}
	}
}

func TestReadOfCutRows(t *testing.T) {
	for _, i := range append(ends(), aDir(), aFile(), aWhole(), aLink()) {
		b := laid(i)
		for _, ahead := range []int{0, 1, 100, 106, 107, 112, 113, 114, 115, 120, 127, 128, 250} {
			for n := range b {
				frames, refs := rowOf(mixed(7, ahead), b[:n])
				readsNot(t, "cut", open(frames), refs[1])
			}
		}
	}
}

// TestReadOfCutLinks: within the first 14 bytes, just behind them, and within the letters.
func TestReadOfCutLinks(t *testing.T) {
	i := withTarget(aLink(), strings.Repeat("x", 200))
	b := laid(i)
	for n := range b {
		frames, _ := rowOf(b[:n])
		readsNot(t, "cut", open(frames), 0)
	}
	frames, _ := rowOf(b)
	reads(t, "whole", open(frames), 0, i, 256*len(blocksOf(t, b[:128]))+86)
	// the bytes behind are another record's: the letters are those that stand there
	frames, refs := rowOf(b[:20], laid(aDir()))
	readsNot(t, "cut, ahead of another one", open(frames), 0)
	reads(t, "the other one", open(frames), refs[1], aDir(), refs[2])
}

// TestReadOverShortFrames: a record goes on in the next frame only if its own is full.
func TestReadOverShortFrames(t *testing.T) {
	for _, i := range append(ends(), aDir(), aFile(), aWhole(), aLink()) {
		b := laid(i)
		for n := 1; n < len(b); n++ {
			for _, ahead := range []int{0, 1, 50, 127 - min(n, 100)} {
				if ahead+n >= 128 {
					continue
				}
				rest := b[n:min(len(b), n+128)]
				short := blocksOf(t, append(mixed(7, ahead), b[:n]...), rest)
				readsNot(t, "a short frame", open(short), ahead)
				hole := blocksOf(t, append(mixed(7, ahead), b[:n]...), nil, rest)
				readsNot(t, "a hole", open(hole), ahead)
			}
		}
	}
	b := laid(aFile())
	full := append(mixed(7, 118), b[:10]...)
	frames := blocksOf(t, full, b[10:])
	reads(t, "a full frame", open(frames), 118, aFile(), 256*len(blocksOf(t, full))+12)
	readsNot(t, "a hole behind a full frame", open(blocksOf(t, full, nil, b[10:])), 118)
	// a record that is whole in a short frame is read, whatever stands behind
	frames = blocksOf(t, b, mixed(1, 128))
	reads(t, "whole in a short frame", open(frames), 0, aFile(), 22)
	readsNot(t, "behind it", open(frames), 22)
}

func TestReadOfRefsBelow0(t *testing.T) {
	frames, _ := recordsRow(t, []api.Inode{{Kind: api.Dir, Links: 1}, aFile()})
	for _, ref := range []int{-1, -2, -127, -128, -255, -256, -257, -65536, math.MinInt + 1, math.MinInt} {
		readsNot(t, "below 0", open(frames), ref)
		readsNot(t, "below 0, of no frames", open(nil), ref)
	}
}

func TestReadOfRefsWithinARecord(t *testing.T) {
	l := []api.Inode{aDir(), aFile(), aLink(), aWhole()}
	frames, refs := recordsRow(t, l)
	r := open(frames)
	for at := range l {
		for ref := refs[at] + 1; ref < refs[at+1]; ref++ {
			readsNot(t, "within a record", r, ref)
		}
	}
	// what stands there is a record, if its bytes are one's: a ref is any byte's
	inner := api.Inode{Kind: api.File, Mode: 0x101, Uid: 0x0102, Gid: 0x0103, Links: 0x0104, Xattr: 0x01020304, Start: 0x05060708, Size: 0x0109, Frag: 0x010a, Off: 11}
	outer := withTarget(aLink(), "a"+string(laid(inner))+"b")
	frames, _ = recordsRow(t, []api.Inode{outer})
	r = open(frames)
	reads(t, "the outer one", r, 0, outer, 38)
	reads(t, "the inner one", r, 15, inner, 37)
}

// TestReadOfAnyRef of a row, of holes and short frames, and of no frames.
func TestReadOfAnyRef(t *testing.T) {
	frames, _ := recordsRow(t, records()[:40])
	other := blocksOf(t, laid(aDir()), nil, append(laid(aLink()), laid(aDir())...), mixed(3, 128), mixed(4, 20))
	read, refused := 0, 0
	for _, row := range [][]byte{frames, other, nil, mixed(5, 300), make([]byte, 300)} {
		r := open(row)
		for ref := range 256*len(row) + 300 {
			if readsAsAsked(t, "any ref", r, ref) == api.OK {
				read++
			} else {
				refused++
			}
		}
		for _, ref := range []int{1 << 31, 1 << 32, 1<<32 - 1, 1 << 62, math.MaxInt - 255, math.MaxInt} {
			readsNot(t, "a far ref", r, ref)
		}
	}
	if read < 40 || refused < 1000 {
		t.Errorf("%d read, %d refused", read, refused)
	}
}

func TestReadOfRefsWithoutAFrame(t *testing.T) {
	frames, refs := recordsRow(t, []api.Inode{aDir(), aFile(), aLink()})
	r := open(frames)
	for ref := refs[3]; ref < 256; ref++ {
		readsNot(t, "behind the frame's bytes", r, ref)
	}
	for place := 1; place < len(frames)+10; place++ {
		readsNot(t, "no frame", r, 256*place)
	}
	readsNot(t, "no frames at all", open(nil), 0)
	readsNot(t, "a hole", open(blocksOf(t, nil)), 0)
}

// TestReadOfAPart: the frames of a row stand anywhere in an image, and end at to or ahead.
func TestReadOfAPart(t *testing.T) {
	l := []api.Inode{aDir(), withTarget(aLink(), strings.Repeat("x", 200)), aFile()}
	frames, refs := recordsRow(t, l)
	image := append(append(mixed(1, 70), frames...), mixed(2, 50)...)
	r := meta.Open(newTable(), image, 70, 70+len(frames))
	for at, i := range l {
		reads(t, "in an image", r, refs[at], i, refs[at+1])
	}
	readsNot(t, "behind the last one", r, refs[3])
	for to := range len(frames) {
		r := meta.Open(newTable(), image, 70, 70+to)
		for _, ref := range refs {
			readsAsAsked(t, "up to a place", r, ref)
		}
		readsNot(t, "the last one", r, refs[2])
	}
	for _, x := range [][2]int{{-1, len(image)}, {0, len(image) + 1}, {71, 70}, {math.MinInt, math.MaxInt}} {
		r := meta.Open(newTable(), image, x[0], x[1])
		for _, ref := range append(refs, -1) {
			readsNot(t, "no part of an image", r, ref)
		}
	}
}

// TestReadOfWhatIsNone: bytes that are there, but are no record's.
func TestReadOfWhatIsNone(t *testing.T) {
	head := laid(aLink())[:13]
	for c := range 256 {
		letters := bytes.Repeat([]byte{'x'}, 256)
		frames, _ := rowOf(head, []byte{byte(c)}, letters)
		if c >= 1 && c <= 200 {
			readsAsAsked(t, "letters", open(frames), 0)
			if i, _, e := inode.Read(open(frames), 0); i != withTarget(aLink(), string(letters[:c])) || e != api.OK {
				t.Errorf("%d letters: %+v, %d", c, i, e)
			}
		} else {
			readsNot(t, "letters", open(frames), 0)
		}
		if c < 1 || c > 3 {
			frames, _ := rowOf([]byte{byte(c)}, mixed(uint32(c), 250))
			readsNot(t, "a kind that is none", open(frames), 0)
			frames, _ = rowOf([]byte{byte(c)}, laid(aDir())[1:], make([]byte, 250))
			readsNot(t, "a kind that is none", open(frames), 0)
		}
	}
	for _, i := range []api.Inode{
		with(aDir(), "Mode", 512), with(aDir(), "Links", 2), with(aDir(), "Size", 1<<20+1), with(aFile(), "Uid", 2048), with(aFile(), "Gid", 65535),
		with(aFile(), "Frag", 0), with(aFile(), "Off", 128), with(aWhole(), "Size", 4097), with(aWhole(), "Off", 1), with(aLink(), "Links", 0),
		withTarget(aLink(), "a\x00b"), withTarget(aLink(), "\x00"), withTarget(aLink(), ""),
	} {
		for _, ahead := range []int{0, 5, 115, 120} {
			frames, refs := rowOf(mixed(1, ahead), laid(i), laid(aDir()))
			readsNot(t, "numbers that may not be", open(frames), refs[1])
			reads(t, "the record behind it", open(frames), refs[2], aDir(), refs[3])
		}
	}
}

// TestReadOfATurnedByte: a record is none if a frame that it needs has a byte turned; the others are as they were.
func TestReadOfATurnedByte(t *testing.T) {
	l := []api.Inode{aDir(), aFile(), aWhole(), aLink(), withTarget(aLink(), strings.Repeat("xyz", 66)), aDir(), aFile(), aLink()}
	frames, refs := recordsRow(t, l)
	frameOf := make([]int, len(frames)) // the place of the frame that a byte is of
	for at := 0; at < len(frames); {
		next, e := frame.Skip(frames, at)
		if e != api.OK {
			t.Fatal(e)
		}
		for i := at; i < next; i++ {
			frameOf[i] = at
		}
		at = next
	}
	for at := range frames {
		for _, turn := range []byte{1, 2, 128, 255} {
			turned := slices.Clone(frames)
			turned[at] ^= turn
			r := open(turned)
			for n, i := range l {
				end := refs[n+1]
				first, last := refs[n]/256, end/256
				if end%256 == 0 {
					last = frameOf[last-1]
				}
				if first <= frameOf[at] && frameOf[at] <= last {
					readsNot(t, "turned", r, refs[n])
				} else {
					reads(t, "another frame turned", r, refs[n], i, end)
				}
			}
		}
	}
}

func TestReadByATable(t *testing.T) {
	w := meta.New(strange())
	ref := w.Add(laid(aLink()))
	frames := w.Done()
	reads(t, "its table", meta.Open(strange(), frames, 0, len(frames)), ref, aLink(), 25)
	readsNot(t, "another table", open(frames), ref)
}

// R6, R7.

// TestReadChangesNothing: what is asked of a reader stays, whatever else was asked of it, and what was read stays as it was.
func TestReadChangesNothing(t *testing.T) {
	l := records()[:30]
	frames, refs := recordsRow(t, l)
	room := append(append(mixed(1, 16), frames...), mixed(2, 100)...)
	before := slices.Clone(room)
	table := newTable()
	r := meta.Open(table, room[:16+len(frames)], 16, 16+len(frames))
	for at, i := range l {
		readsNot(t, "below 0", r, -1)
		reads(t, "once", r, refs[at], i, refs[at+1])
		readsNot(t, "behind", r, refs[30])
		reads(t, "twice", r, refs[at], i, refs[at+1])
	}
	if !bytes.Equal(room, before) || *table != crc.New() {
		t.Error("image or table changed")
	}
	link, next, e := inode.Read(r, refs[6])
	clear(room)
	if b, _, _ := r.Read(refs[6], 10); len(b) > 0 {
		clear(b[:cap(b)])
	}
	if link != l[6] || next != refs[7] || e != api.OK {
		t.Errorf("behind a change of the image: %+v, %d, %d", link, next, e)
	}
	reads(t, "behind a change of the image", r, refs[6], l[6], refs[7])
}
