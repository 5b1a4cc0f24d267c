package frag_test

import (
	"bytes"
	"slices"
	"testing"

	"lamella/frag"
)

func adds(t *testing.T, why string, p *frag.Packer, tail []byte, number, off int) {
	t.Helper()
	if a, b := p.Add(tail); a != number || b != off {
		t.Errorf("%s: Add of %d bytes: %d, %d, wanted %d, %d", why, len(tail), a, b, number, off)
	}
}

// holds asks the blocks twice.
func holds(t *testing.T, why string, p *frag.Packer, want ...[]byte) {
	t.Helper()
	for range 2 {
		if b := p.Blocks(); !slices.EqualFunc(b, want, bytes.Equal) {
			t.Fatalf("%s: Blocks: % x, wanted % x", why, b, want)
		}
	}
}

// slowPacker is P13.1 word by word.
type slowPacker struct{ blocks [][]byte }

func (p *slowPacker) add(tail []byte) (number, off int) {
	if len(tail) < 1 || len(tail) > 127 {
		return 0, 0
	}
	last := len(p.blocks) - 1
	if last < 0 || len(p.blocks[last])+len(tail) > 128 {
		p.blocks = append(p.blocks, nil)
		last++
	}
	off = len(p.blocks[last])
	p.blocks[last] = slices.Concat(p.blocks[last], tail)
	return last + 1, off
}

// pair is a packer and the slow one, which must answer alike.
type pair struct {
	fast *frag.Packer
	slow *slowPacker
}

func newPair() pair { return pair{frag.New(), &slowPacker{}} }

func (p pair) add(t *testing.T, why string, tail []byte) {
	t.Helper()
	number, off := p.slow.add(tail)
	adds(t, why, p.fast, tail, number, off)
}

func (p pair) holds(t *testing.T, why string) {
	t.Helper()
	holds(t, why, p.fast, p.slow.blocks...)
}

// P13.1: New, Blocks.

func TestNothingYet(t *testing.T) {
	p := frag.New()
	if p == nil {
		t.Fatal("New: nil")
	}
	holds(t, "a new packer", p)
	adds(t, "the first", p, []byte("a"), 1, 0)
	holds(t, "a packer with a tail", p, []byte("a"))
	holds(t, "another new packer", frag.New())
}

// TestBlocksTable: the blocks, byte by byte, with as many bytes as they have.
func TestBlocksTable(t *testing.T) {
	for _, x := range []struct {
		why  string
		adds []int // how many bytes of a, of b, of c ..
		want []string
	}{
		{"one byte", []int{1}, []string{"1a"}},
		{"127 bytes", []int{127}, []string{"127a"}},
		{"some", []int{1, 2, 64}, []string{"1a2b64c"}},
		{"just full", []int{100, 28}, []string{"100a28b"}},
		{"just full, and one more", []int{100, 28, 1}, []string{"100a28b", "1c"}},
		{"one byte of room is missing", []int{100, 29}, []string{"100a", "29b"}},
		{"one byte of room is left", []int{100, 27, 1}, []string{"100a27b1c"}},
		{"full with the last byte", []int{127, 1, 127, 1}, []string{"127a1b", "127c1d"}},
		{"full with 127 bytes", []int{1, 127, 1, 127}, []string{"1a127b", "1c127d"}},
		{"one too many behind 127", []int{127, 2}, []string{"127a", "2b"}},
		{"127 behind two", []int{2, 127}, []string{"2a", "127b"}},
		{"126 behind two", []int{2, 126}, []string{"2a126b"}},
		{"halves", []int{64, 64, 64, 64, 64}, []string{"64a64b", "64c64d", "64e"}},
		{"a block ahead has room", []int{1, 127, 2, 127, 1, 126}, []string{"1a127b", "2c", "127d1e", "126f"}},
		{"two blocks ahead have room", []int{10, 120, 20, 100}, []string{"10a", "120b", "20c100d"}},
		{"none between", []int{100, 0, 28, 0, 0, 1}, []string{"100a28c", "1f"}},
		{"too many between", []int{100, 128, 28, 129, 300, 1}, []string{"100a28c", "1f"}},
		{"none alone", []int{0, 0}, nil},
		{"too many alone", []int{128, 129, 4096}, nil},
		{"none first of all", []int{0, 128, 5, 127}, []string{"5c", "127d"}},
	} {
		p := frag.New()
		for i, n := range x.adds {
			p.Add(bytes.Repeat([]byte{byte('a' + i)}, n))
		}
		var want [][]byte
		for _, s := range x.want {
			want = append(want, spelt(s))
		}
		holds(t, x.why, p, want...)
	}
}

// TestBlocksAreAskedBetween: to ask the blocks changes nothing of what comes.
func TestBlocksAreAskedBetween(t *testing.T) {
	asked, unasked := frag.New(), frag.New()
	slow := &slowPacker{}
	for i, n := range mixed(1, 300, 127) {
		tail := mixed(uint32(i), int(n), 255)
		number, off := slow.add(tail)
		adds(t, "asked", asked, tail, number, off)
		adds(t, "unasked", unasked, tail, number, off)
		holds(t, "asked", asked, slow.blocks...)
	}
	holds(t, "unasked", unasked, slow.blocks...)
}

// P13.1: Add.

// TestAddOfSizes: behind every number of bytes that a last block may have, one more tail of every size.
func TestAddOfSizes(t *testing.T) {
	for ahead := range 129 {
		for n := range 131 {
			p := newPair()
			p.add(t, "ahead", mixed(1, ahead/2, 255))
			p.add(t, "ahead", mixed(2, ahead-ahead/2, 255))
			p.add(t, "then", mixed(3, n, 255))
			p.add(t, "behind it", []byte("b"))
			p.holds(t, "sizes")
		}
	}
}

func TestAddOfTheFirst(t *testing.T) {
	for _, n := range []int{1, 2, 64, 126, 127} {
		p := frag.New()
		adds(t, "the first", p, rising(n), 1, 0)
		holds(t, "the first", p, rising(n))
		adds(t, "what fills it", p, make([]byte, 128-n), 1, n)
		adds(t, "the first of the second block", p, rising(n), 2, 0)
		holds(t, "all", p, append(rising(n), make([]byte, 128-n)...), rising(n))
	}
}

// TestAddOfRoom: with the last block's room just taken, one byte less, and one more.
func TestAddOfRoom(t *testing.T) {
	for n := 2; n <= 126; n++ {
		full, less, more := frag.New(), frag.New(), frag.New()
		for _, p := range []*frag.Packer{full, less, more} {
			adds(t, "ahead", p, rising(n), 1, 0)
		}
		adds(t, "just full", full, rising(128-n), 1, n)
		adds(t, "a byte is left", less, rising(127-n), 1, n)
		adds(t, "a byte is missing", more, rising(129-n), 2, 0)
		adds(t, "behind a full one", full, []byte("b"), 2, 0)
		adds(t, "into the last byte", less, []byte("b"), 1, 127)
		adds(t, "behind what had no room", more, []byte("b"), 2+(129-n)/128, (129-n)%128)
	}
}

// TestAddOfRoomAhead: a block that is not the last one takes nothing more, however much room it has.
func TestAddOfRoomAhead(t *testing.T) {
	p := frag.New()
	adds(t, "a byte", p, []byte("a"), 1, 0)
	adds(t, "what fills it", p, rising(127), 1, 1)
	adds(t, "two bytes", p, []byte("bb"), 2, 0)
	adds(t, "127", p, rising(127), 3, 0)
	adds(t, "room in the second one, not in the third", p, []byte("cc"), 4, 0)
	adds(t, "126", p, rising(126), 4, 2)
	adds(t, "a byte, room in the second and the third", p, []byte("d"), 5, 0)
	holds(t, "all", p, append([]byte("a"), rising(127)...), []byte("bb"), rising(127), append([]byte("cc"), rising(126)...), []byte("d"))
}

// TestAddOfNoTail: none, and what has a whole block or more, at each step of a row of others.
func TestAddOfNoTail(t *testing.T) {
	none := [][]byte{nil, {}, rising(500)[100:100], rising(128), rising(129), rising(255), rising(256), rising(4096), make([]byte, 70000)}
	p, slow := frag.New(), &slowPacker{}
	for i, n := range []int{0, 1, 127, 60, 69, 126, 1, 1, 1, 127, 127, 2} {
		tail := mixed(uint32(i), n, 255)
		number, off := slow.add(tail)
		adds(t, "a row", p, tail, number, off)
		for _, b := range none {
			adds(t, "no tail", p, b, 0, 0)
			holds(t, "no tail", p, slow.blocks...)
		}
	}
}

func TestAddOfMany(t *testing.T) {
	ones, longs := frag.New(), frag.New()
	for i := range 1000 {
		adds(t, "of 1 byte", ones, []byte{byte(i)}, 1+i/128, i%128)
		adds(t, "of 127 bytes", longs, mixed(uint32(i), 127, 255), 1+i, 0)
	}
	row := make([]byte, 1000)
	for i := range row {
		row[i] = byte(i)
	}
	holds(t, "of 1 byte", ones, slices.Collect(slices.Chunk(row, 128))...)
	var want [][]byte
	for i := range 1000 {
		want = append(want, mixed(uint32(i), 127, 255))
	}
	holds(t, "of 127 bytes", longs, want...)
}

// TestAddByTurns: of 64 and 65 no two have room in a block; of 64 and 63 and 1 just three have.
func TestAddByTurns(t *testing.T) {
	p := frag.New()
	q := frag.New()
	var want, wantFull [][]byte
	for i := range 200 {
		tail := mixed(uint32(i), 64+i%2, 255)
		adds(t, "64 and 65", p, tail, 1+i, 0)
		want = append(want, tail)
		full := mixed(uint32(i), 128, 255)
		adds(t, "64 of 128", q, full[:64], 1+i, 0)
		adds(t, "63 of 128", q, full[64:127], 1+i, 64)
		adds(t, "1 of 128", q, full[127:], 1+i, 127)
		wantFull = append(wantFull, full)
	}
	holds(t, "64 and 65", p, want...)
	holds(t, "64, 63 and 1", q, wantFull...)
}

// TestSameTailsAreThereTwice: a tail that was added is added again.
func TestSameTailsAreThereTwice(t *testing.T) {
	p := frag.New()
	for i := range 12 {
		adds(t, "the same", p, []byte("0123456789abcdef0123456789abcdef"), 1+i/4, i%4*32)
	}
	adds(t, "noughts", p, make([]byte, 100), 4, 0)
	adds(t, "noughts again", p, make([]byte, 100), 5, 0)
	block := bytes.Repeat([]byte("0123456789abcdef"), 8)
	holds(t, "all", p, block, block, block, make([]byte, 100), make([]byte, 100))
}

// TestRowsOfAddsAreTheRule holds a packer against P13.1 over rows of tails, of which some are none.
func TestRowsOfAddsAreTheRule(t *testing.T) {
	for seed := range uint32(200) {
		p := newPair()
		most := []int{3, 20, 64, 127, 140}[seed%5]
		for i, n := range mixed(seed, 200, most) {
			p.add(t, "a row", mixed(seed+uint32(i), int(n)-int(seed/5)%2, 255))
			if i%17 == 0 {
				p.holds(t, "a row")
			}
		}
		p.holds(t, "a row")
	}
}
