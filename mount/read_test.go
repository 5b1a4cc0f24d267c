package mount_test

import (
	"bytes"
	"fmt"
	"math"
	"slices"
	"testing"

	"lamella/api"
	"lamella/mount"
)

// P15.3: Read.

func allGood(n int) []bool { return slices.Repeat([]bool{true}, n) }

// TestReadAnywhere: each place and each number of bytes of files with blocks alone, a tail alone, and both.
func TestReadAnywhere(t *testing.T) {
	for _, size := range []int{0, 1, 127, 128, 129, 256, 300} {
		what := fmt.Sprint(size, " bytes")
		b := mixed(uint32(size), size)
		m := mounted(t, what, built(t, what, rooted(file("a", mixed(9, 50)), file("f", b), file("z", mixed(8, 50)))))
		ref := at(t, m, "f")
		for off := range size + 4 {
			for n := range size + 4 {
				reads(t, what, m, ref, span{off, n}, b, allGood(size))
			}
		}
	}
}

// TestReadAtEdges: of files of all sizes, around each block's end, and with numbers that are too great to be added.
func TestReadAtEdges(t *testing.T) {
	m := mounts(t, "files", built(t, "files", filesOfAllSizes()))
	for _, size := range sizes() {
		ref := at(t, m, fmt.Sprint("f", size))
		b := mixed(uint32(size), size)
		var edges []int
		for block := 0; block <= size+128; block += 128 {
			edges = append(edges, max(block-1, 0), block, block+1)
		}
		edges = append(edges, size, size+1, math.MaxInt-1, math.MaxInt)
		for _, off := range edges {
			for _, n := range append(edges, 2, 5, 127, 4096, 5000) {
				reads(t, fmt.Sprint(size, " bytes"), m, ref, span{off, n}, b, allGood(size))
			}
		}
	}
}

func TestReadOfWorld(t *testing.T) {
	d := world()
	m := mounts(t, "a world", d.image())
	for node, b := range map[int][]byte{worldA: dataOfA(), worldT: []byte("tailt"), worldZ: dataOfZ()} {
		for off := range len(b) + 3 {
			for _, n := range []int{0, 1, 2, 44, 100, 128, 200, 5000} {
				reads(t, "a world", m, d.ref(node), span{off, n}, b, allGood(len(b)))
			}
		}
	}
}

// TestReadNoughts: holes, and noughts in a tail.
func TestReadNoughts(t *testing.T) {
	b := slices.Concat(make([]byte, 128), mixed(1, 128), make([]byte, 256), mixed(2, 128), make([]byte, 60))
	m := mounts(t, "noughts", built(t, "noughts", rooted(file("f", b), file("g", make([]byte, 4096)))))
	for off := 0; off < len(b); off += 7 {
		for _, n := range []int{1, 7, 128, 129, 700} {
			reads(t, "noughts", m, at(t, m, "f"), span{off, n}, b, allGood(len(b)))
		}
	}
	reads(t, "noughts", m, at(t, m, "g"), span{0, 4096}, make([]byte, 4096), allGood(4096))
}

// TestTurnedBytes: each byte of a world's blocks is turned. What needs the frame that it stands in tells ErrIO, or, if it is in the head of a file's block, there is no image; what does not need it is told as it was.
func TestTurnedBytes(t *testing.T) {
	d := world()
	image := d.image()
	a, z := d.nodes[worldA].Start, d.nodes[worldZ].Start
	frames := []struct {
		from, to   int
		fragment   bool
		node       int
		first, end int // which of the file's bytes it holds
	}{
		{64, d.places[1], true, worldA, 256, 300},
		{d.places[1], a, true, worldT, 0, 5},
		{a, a + 135, false, worldA, 0, 128},
		{a + 135, z, false, worldA, 128, 256},
		{z, z + 135, false, worldZ, 0, 128},
	}
	if z != a+270 || z+135 != 64+len(d.blocks) {
		t.Fatal(a, z, len(d.blocks))
	}
	for _, f := range frames {
		for at := f.from; at < f.to; at++ {
			for _, turn := range []byte{1, 128, 255} {
				what := fmt.Sprintf("the byte %d of the frame at %d, by %d", at-f.from, f.from, turn)
				broken := slices.Clone(image)
				broken[at] ^= turn
				if at < f.from+3 && !f.fragment {
					refuses(t, what, broken)
					continue
				}
				m := mounted(t, what, broken)
				for node, b := range map[int][]byte{worldA: dataOfA(), worldT: []byte("tailt"), worldZ: dataOfZ()} {
					good := allGood(len(b))
					for i := f.first; node == f.node && i < f.end; i++ {
						good[i] = false
					}
					for _, x := range append(spans(len(b)), span{f.first, 0}, span{max(f.first-1, 0), 1}, span{f.first, 1}, span{f.end - 1, 1}, span{f.end, 1}, span{f.end, 500}) {
						reads(t, what, m, d.ref(node), x, b, good)
					}
				}
			}
		}
	}
	for at := range image {
		broken := slices.Clone(image)
		broken[at] ^= 4
		asTheModel(t, fmt.Sprint("the byte ", at), broken)
	}
}

// TestBlocksOfOtherSizes: a frame that is whole, but does not hold 128 bytes, is no block; as one that stands ahead it is passed.
func TestBlocksOfOtherSizes(t *testing.T) {
	for _, held := range []int{0, 1, 127, 128} {
		d := flat(1, 0)
		b := slices.Concat(mixed(1, held), mixed(2, 128))
		first := storedFrame(b[:held])
		if held == 0 {
			first = []byte{0, 0, 255}
			b = append(make([]byte, 128), b...)
		}
		d.blocks = slices.Concat(first, storedFrame(mixed(2, 128)))
		d.nodes[1].Start, d.nodes[1].Size = 64, 256
		what := fmt.Sprint("a block of ", held)
		m := mounts(t, what, d.image())
		good := allGood(256)
		if held == 1 || held == 127 {
			b = slices.Concat(make([]byte, 128), mixed(2, 128))
			good = slices.Concat(slices.Repeat([]bool{false}, 128), allGood(128))
		}
		for off := range 258 {
			for _, n := range []int{0, 1, 128, 256} {
				reads(t, what, m, d.ref(1), span{off, n}, b, good)
			}
		}
	}
}

// TestTailsThatAreNotThere: what there is of a tail is read; what is not tells ErrIO.
func TestTailsThatAreNotThere(t *testing.T) {
	tail := func(held []byte, off, size int) (*draft, *mount.Image) {
		d := flat(1, 0)
		d.blocks, d.places = storedFrame(held), []int{64}
		d.nodes[1].Size, d.nodes[1].Frag, d.nodes[1].Off = size, 1, off
		return d, mounts(t, fmt.Sprintf("%d bytes at %d, of %d", size, off, len(held)), d.image())
	}
	held := mixed(1, 60)
	for _, off := range []int{0, 1, 50, 59, 60, 61, 127} {
		for _, size := range []int{1, 9, 10, 11, 60, 127} {
			d, m := tail(held, off, size)
			b, good := make([]byte, size), make([]bool, size)
			for i := range b {
				if off+i < len(held) {
					b[i], good[i] = held[off+i], true
				}
			}
			for from := range size + 2 {
				for n := range size + 2 {
					reads(t, fmt.Sprintf("%d bytes at %d, of 60", size, off), m, d.ref(1), span{from, n}, b, good)
				}
			}
		}
	}
}

// TestPlacesThatAreNone: of a fragment that is no frame, or a hole, no byte is read; where none is needed there is no error.
func TestPlacesThatAreNone(t *testing.T) {
	d := world()
	hole := 64 + len(d.blocks)
	d.blocks = append(d.blocks, 0, 0, 255)
	for _, place := range []int{0, 63, 65, hole, hole + 1, 1 << 20, 1<<32 - 1} {
		d.places[0] = place
		what := fmt.Sprint("the place ", place)
		m := mounts(t, what, d.image())
		good := slices.Concat(allGood(256), make([]bool, 44))
		for off := 0; off < 302; off += 2 {
			for _, n := range []int{0, 1, 2, 3, 100, 256, 300} {
				reads(t, what, m, d.ref(worldA), span{off, n}, dataOfA(), good)
			}
		}
		reads(t, what, m, d.ref(worldT), span{0, 5}, []byte("tailt"), allGood(5))
	}
	// any frame of an image may be a fragment, also one of the rows
	d.places[1] = 64 + len(d.blocks)
	m := mounts(t, "a place among the inodes", d.image())
	if b, e := m.Read(d.ref(worldT), 0, 5); !bytes.Equal(b, d.plain().inodes[:5]) || e != api.OK {
		t.Errorf("Read: %q, error %d", b, e)
	}
}

// TestFilesShareBytes: blocks of two files that are the same frames, or lie over one another, and tails that do.
func TestFilesShareBytes(t *testing.T) {
	d := flat(3, 0)
	b := mixed(1, 512)
	held := mixed(2, 100)
	d.blocks = slices.Concat(stored(b), storedFrame(held))
	d.places = []int{64 + 4*135}
	for i, x := range []struct{ block, size, off int }{{0, 512 + 40, 30}, {1, 256 + 20, 50}, {3, 128 + 70, 30}} {
		n := d.nodes[1+i]
		n.Start, n.Size, n.Frag, n.Off = 64+135*x.block, x.size, 1, x.off
		want := slices.Concat(b[128*x.block:128*x.block+x.size/128*128], held[x.off:x.off+x.size%128])
		m := mounts(t, "files that share bytes", d.image())
		for _, s := range spans(x.size) {
			reads(t, "files that share bytes", m, d.ref(1+i), s, want, allGood(x.size))
		}
	}
}
