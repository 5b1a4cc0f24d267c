package frag_test

import (
	"bytes"
	"slices"
	"testing"

	"lamella/api"
	"lamella/crc"
	"lamella/frag"
	"lamella/frame"
)

// mixed is n bytes of an alphabet of so many letters, the same ones in each run of the tests.
func mixed(seed uint32, n, letters int) []byte {
	b := make([]byte, n)
	for i := range b {
		seed = seed*1664525 + 1013904223
		b[i] = byte(1 + int(seed>>16)%letters)
	}
	return b
}

// rising is n bytes that pack to more, so that their frame is stored.
func rising(n int) []byte {
	b := make([]byte, n)
	for i := range b {
		b[i] = byte(i)
	}
	return b
}

// spelt is of "2a1b" the bytes aab.
func spelt(s string) []byte {
	var b []byte
	n := 0
	for _, c := range []byte(s) {
		if c <= '9' {
			n = 10*n + int(c-'0')
			continue
		}
		b = append(b, bytes.Repeat([]byte{c}, n)...)
		n = 0
	}
	return b
}

func newTable() *crc.Table {
	t := crc.New()
	return &t
}

// strange is a table of no rule.
func strange() *crc.Table {
	var t crc.Table
	for i := range t {
		t[i] = uint32(i)*2654435761 ^ 0x9e3779b9
	}
	return &t
}

func tables() []*crc.Table { return []*crc.Table{newTable(), strange(), {}} }

func frameOf(table *crc.Table, b []byte) []byte {
	f, e := frame.Put(table, b)
	if e != api.OK {
		panic("no frame of so many bytes")
	}
	return f
}

// layout is frames of blocks, one behind the other, behind so many other bytes, and where each begins.
func layout(table *crc.Table, ahead int, blocks ...[]byte) (image []byte, places []int) {
	image = mixed(9, ahead, 255)
	for _, b := range blocks {
		places = append(places, len(image))
		image = append(image, frameOf(table, b)...)
	}
	return image, places
}

func TestExampleOfTheChapter(t *testing.T) {
	p := frag.New()
	adds(t, "100 bytes", p, bytes.Repeat([]byte("a"), 100), 1, 0)
	adds(t, "28 bytes", p, bytes.Repeat([]byte("b"), 28), 1, 100)
	adds(t, "1 byte", p, []byte("c"), 2, 0)
	holds(t, "all", p, spelt("100a28b"), spelt("1c"))
	image, places := layout(newTable(), 64, p.Blocks()...)
	reads(t, "100 bytes", newTable(), image, places, 1, 0, 100, spelt("100a"))
	reads(t, "28 bytes", newTable(), image, places, 1, 100, 28, spelt("28b"))
	reads(t, "1 byte", newTable(), image, places, 2, 0, 1, spelt("1c"))
}

// P13.3.

// added is a tail, and what Add told of it.
type added struct {
	tail        []byte
	number, off int
}

// addAll is a packer with tails of all kinds: of noughts, of ones that pack and ones that do not, the same ones again, and none between them.
func addAll(seed uint32) (*frag.Packer, []added) {
	p := frag.New()
	var all []added
	for i, n := range mixed(seed, 150, 128) {
		k := seed + uint32(i)
		for _, b := range [][]byte{mixed(k, int(n)-1, 255), mixed(k, int(n)/2, 2), make([]byte, n/4), rising(int(n) - 1), nil} {
			number, off := p.Add(b)
			if len(b) > 0 {
				all = append(all, added{b, number, off})
			}
		}
	}
	return p, all
}

// TestWhatWasAddedIsRead: out of frames that stand one behind the other, and out of frames that stand anywhere.
func TestWhatWasAddedIsRead(t *testing.T) {
	for i, table := range tables() {
		p, all := addAll(uint32(i))
		blocks := p.Blocks()
		row, rowPlaces := layout(table, 64*i, blocks...)
		anywhere, anyPlaces := scattered(table, blocks)
		for _, x := range all {
			reads(t, "one behind the other", table, row, rowPlaces, x.number, x.off, len(x.tail), x.tail)
			reads(t, "anywhere", table, anywhere, anyPlaces, x.number, x.off, len(x.tail), x.tail)
			part := len(x.tail) / 3
			reads(t, "a part", table, row, rowPlaces, x.number, x.off+part, part, x.tail[part:2*part])
			reads(t, "nothing of it", table, row, rowPlaces, x.number, x.off, 0, nil)
		}
	}
}

// scattered is frames of blocks from the last to the first, with other bytes, and other frames, between them.
func scattered(table *crc.Table, blocks [][]byte) (image []byte, places []int) {
	places = make([]int, len(blocks))
	for i, b := range slices.Backward(blocks) {
		image = append(image, mixed(uint32(i), i%5, 255)...)
		if i%3 == 0 {
			image = append(image, frameOf(table, mixed(uint32(i), 50, 255))...)
		}
		places[i] = len(image)
		image = append(image, frameOf(table, b)...)
	}
	return append(image, mixed(1, 20, 255)...), places
}

// TestTailsHaveNothingInCommon: each byte of each block is of just one tail.
func TestTailsHaveNothingInCommon(t *testing.T) {
	for seed := range uint32(20) {
		p, all := addAll(seed)
		var owners [][]int
		for _, b := range p.Blocks() {
			if len(b) < 1 || len(b) > 128 {
				t.Fatalf("a block of %d bytes", len(b))
			}
			owners = append(owners, make([]int, len(b)))
		}
		for _, x := range all {
			for i := range x.tail {
				owners[x.number-1][x.off+i]++
			}
		}
		for i, o := range owners {
			if slices.Min(o) != 1 || slices.Max(o) != 1 {
				t.Fatalf("block %d: %v", i+1, o)
			}
		}
	}
}

// TestWhatIsAddedBehindChangesNothing: a tail that was told where it is stays there, whatever is added later.
func TestWhatIsAddedBehindChangesNothing(t *testing.T) {
	p := frag.New()
	var all []added
	for i, n := range mixed(5, 200, 127) {
		tail := mixed(uint32(i), int(n), 255)
		number, off := p.Add(tail)
		all = append(all, added{tail, number, off})
		blocks := p.Blocks()
		for _, x := range all {
			if b := blocks[x.number-1]; !bytes.Equal(b[x.off:x.off+len(x.tail)], x.tail) {
				t.Fatalf("behind %d more: %d, %d: % x", i, x.number, x.off, b)
			}
		}
	}
}

// R6, R7.

// overwrite is of bytes and their spare room.
func overwrite(b []byte) {
	b = b[:cap(b)]
	for i := range b {
		b[i] = 0xdd
	}
}

func TestWhatIsHandedInStays(t *testing.T) {
	room := mixed(1, 1000, 255)
	before := slices.Clone(room)
	p := frag.New()
	for _, n := range []int{0, 1, 2, 27, 64, 100, 126, 127, 128, 129, 400} {
		p.Add(room[50 : 50+n])
		p.Blocks()
		p.Add(room[51 : 51+n])
	}
	for _, b := range p.Blocks() {
		overwrite(b)
	}
	if !bytes.Equal(room, before) {
		t.Error("a tail that was handed in was changed, or its spare room")
	}

	table := newTable()
	image, places := layout(table, 10, rising(128), spelt("100a"), nil, []byte("b"))
	image, places = append(image, mixed(2, 200, 255)...), append(places, 0, 10, -1)
	imageBefore, placesBefore := slices.Clone(image), slices.Clone(places)
	for number := -1; number <= 5; number++ {
		for _, off := range []int{-1, 0, 1, 50, 100, 128} {
			for _, n := range []int{-1, 0, 1, 50, 128} {
				b, _ := frag.Read(table, image[:len(image)-200], places[:4], number, off, n)
				overwrite(b)
			}
		}
	}
	if !bytes.Equal(image, imageBefore) || !slices.Equal(places, placesBefore) || *table != crc.New() {
		t.Error("Read changed the image, the places, their spare room, or the table of sums")
	}
}

// TestNothingIsKept: what is written later into a tail that was handed in, or into what Blocks answered, is not seen.
func TestNothingIsKept(t *testing.T) {
	p := frag.New()
	room := make([]byte, 0, 300)
	for i, s := range []string{"100a", "28b", "1c", "127d", "64e", "65f"} {
		tail := append(room, spelt(s)...)
		p.Add(tail)
		overwrite(tail)
		if i%2 == 0 {
			for _, b := range p.Blocks() {
				overwrite(b)
			}
		}
	}
	want := [][]byte{spelt("100a28b"), spelt("1c127d"), spelt("64e"), spelt("65f")}
	holds(t, "overwritten", p, want...)

	first, second := p.Blocks(), p.Blocks()
	for i := range first {
		overwrite(first[i])
		first[i] = []byte("another")
	}
	clear(first[:cap(first)])
	p.Add(spelt("63g"))
	p.Add(spelt("1h"))
	if !slices.EqualFunc(second, want, bytes.Equal) {
		t.Errorf("what Blocks answered is seen to change: % x", second)
	}
	want[3] = spelt("65f63g")
	holds(t, "added behind", p, append(want, spelt("1h"))...)
}

// TestBlocksGoTheirOwnWays: what is appended to one of the blocks, or written into it, changes no other one.
func TestBlocksGoTheirOwnWays(t *testing.T) {
	for _, sizes := range [][]int{{1, 127, 1, 127}, {100, 29, 100, 29}, {64, 65, 64, 65}, {2, 127, 2, 127, 1}, {127, 126, 125, 124}} {
		p, slow := frag.New(), &slowPacker{}
		for i, n := range sizes {
			p.Add(mixed(uint32(i), n, 255))
			slow.add(mixed(uint32(i), n, 255))
		}
		for k := range slow.blocks {
			for _, n := range []int{1, 2, 28, 63, 128, 500} {
				blocks := p.Blocks()
				longer := append(blocks[k], bytes.Repeat([]byte{0xcc}, n)...)
				if !slices.EqualFunc(blocks, slow.blocks, bytes.Equal) {
					t.Fatalf("%d bytes behind block %d: % x", n, k, blocks)
				}
				overwrite(longer)
				overwrite(blocks[k])
				for i, b := range blocks {
					if i != k && !bytes.Equal(b, slow.blocks[i]) {
						t.Fatalf("block %d overwritten: % x", k, blocks)
					}
				}
			}
			holds(t, "all of it", p, slow.blocks...)
		}
	}
}

// TestReadIsTheCallersOwn: of frames that are stored and that are packed.
func TestReadIsTheCallersOwn(t *testing.T) {
	table := newTable()
	blocks := [][]byte{rising(128), spelt("60a60b8c"), []byte("d"), rising(100)}
	image, places := layout(table, 7, blocks...)
	before := slices.Clone(image)
	for i, want := range blocks {
		n := len(want)
		whole, _ := frag.Read(table, image, places, i+1, 0, n)
		begin, _ := frag.Read(table, image, places, i+1, 0, n/2)
		end, _ := frag.Read(table, image, places, i+1, n/2, n-n/2)
		overwrite(begin)
		if !bytes.Equal(whole, want) || !bytes.Equal(end, want[n/2:]) {
			t.Errorf("block %d: answers share bytes", i+1)
		}
		overwrite(end)
		if !bytes.Equal(whole, want) || !bytes.Equal(image, before) {
			t.Errorf("block %d: an answer shares bytes with another one, or with the image", i+1)
		}
		overwrite(image)
		if !bytes.Equal(whole, want) {
			t.Errorf("block %d: an answer shares bytes with the image", i+1)
		}
		overwrite(whole)
		copy(image, before)
		reads(t, "behind all of it", table, image, places, i+1, 0, n, want)
	}
}

func TestPackersGoTheirOwnWays(t *testing.T) {
	p, q := frag.New(), frag.New()
	adds(t, "one", p, spelt("100a"), 1, 0)
	adds(t, "the other", q, spelt("28b"), 1, 0)
	adds(t, "one", p, spelt("29c"), 2, 0)
	adds(t, "the other", q, spelt("100d"), 1, 28)
	adds(t, "one", p, spelt("99e"), 2, 29)
	holds(t, "one", p, spelt("100a"), spelt("29c99e"))
	holds(t, "the other", q, spelt("28b100d"))
}
