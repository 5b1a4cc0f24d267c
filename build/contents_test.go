package build_test

import (
	"bytes"
	"fmt"
	"slices"
	"testing"

	"lamella/api"
)

// where is what a record tells of a file's bytes.
type where struct{ start, size, frag, off int }

func whereOf(r api.Inode) where { return where{r.Start, r.Size, r.Frag, r.Off} }

// lies holds records, by path, against where they should be.
func lies(t *testing.T, o *opened, want map[string]where) {
	t.Helper()
	for path, w := range want {
		if r, _ := o.record(t, path); whereOf(r) != w {
			t.Errorf("%s: %+v, wanted %+v", path, whereOf(r), w)
		}
	}
}

func blocksAre(t *testing.T, what string, o *opened, frames ...[]byte) {
	t.Helper()
	if got := o.image[64:o.super.InodeAt]; !bytes.Equal(got, slices.Concat(frames...)) {
		t.Errorf("%s: blocks % x, wanted % x", what, got, slices.Concat(frames...))
	}
}

func hole() []byte { return []byte{0, 0, 255} }

// framesOf are the frames of whole blocks, a hole of each that is noughts alone.
func framesOf(b []byte) []byte {
	var frames []byte
	for block := range slices.Chunk(b, 128) {
		if bytes.Count(block, []byte{0}) == 128 {
			frames = append(frames, hole()...)
			continue
		}
		frames = append(frames, frameOf(block)...)
	}
	return frames
}

// TestOneFile: of each size at which something turns, of noughts and of others.
func TestOneFile(t *testing.T) {
	for _, n := range []int{0, 1, 2, 127, 128, 129, 255, 256, 257, 384, 4095, 4096} {
		for k, b := range [][]byte{make([]byte, n), rising(n), mixed(uint32(n), n, 2)} {
			what := fmt.Sprint(n, " bytes, ", k)
			o := open(t, what, built(t, what, rooted(file("a", b))))
			want := where{size: n}
			blocks, places := framesOf(b[:n/128*128]), []int(nil)
			if n >= 128 {
				want.start = 64
			}
			if n%128 > 0 {
				want.frag = 1
				places = []int{64 + len(blocks)}
				blocks = append(blocks, frameOf(b[n/128*128:])...)
			}
			lies(t, o, map[string]where{"a": want})
			blocksAre(t, what, o, blocks)
			if o.super.Frags != len(places) || !slices.Equal(o.places, places) || o.super.InodeAt != 64+len(blocks) {
				t.Errorf("%s: places %v, wanted %v: %+v", what, o.places, places, o.super)
			}
		}
	}
}

// TestSameBlocks: files that have the same blocks have them once; a tail is packed each time, also the same one.
func TestSameBlocks(t *testing.T) {
	o := open(t, "same blocks", built(t, "same blocks", sameBlocks()))
	stored, a := frameOf(rising(128)), frameOf(spelt("128a"))
	if len(stored) != 135 || len(a) != 11 {
		t.Fatal(len(stored), len(a))
	}
	blocksAre(t, "same blocks", o,
		stored, a, // a at 64, of 146 bytes
		stored,    // e at 210
		a,         // f at 345
		a, stored, // g at 356
		hole(), hole(), // i at 502
		frameOf(slices.Concat([]byte("tailtailother"), make([]byte, 44), []byte("tail"))))
	lies(t, o, map[string]where{
		"a": {64, 256, 0, 0},
		"b": {64, 260, 1, 0},
		"c": {64, 260, 1, 4},
		"d": {64, 261, 1, 8},
		"e": {210, 128, 0, 0},
		"f": {345, 128, 0, 0},
		"g": {356, 256, 0, 0},
		"h": {64, 256, 0, 0},
		"i": {502, 256, 0, 0},
		"j": {502, 300, 1, 13},
		"k": {0, 4, 1, 57},
	})
	if !slices.Equal(o.places, []int{508}) {
		t.Errorf("places %v", o.places)
	}
}

// TestTails: in canonical order, however the nodes come; behind all files' blocks.
func TestTails(t *testing.T) {
	for _, x := range []struct {
		sizes []int
		want  [][2]int // the fragment and the offset of each
		held  []int    // how many bytes each fragment holds
	}{
		{[]int{127, 1}, [][2]int{{1, 0}, {1, 127}}, []int{128}},
		{[]int{1, 127}, [][2]int{{1, 0}, {1, 1}}, []int{128}},
		{[]int{127, 2}, [][2]int{{1, 0}, {2, 0}}, []int{127, 2}},
		{[]int{2, 127}, [][2]int{{1, 0}, {2, 0}}, []int{2, 127}},
		{[]int{100, 28, 1}, [][2]int{{1, 0}, {1, 100}, {2, 0}}, []int{128, 1}},
		{[]int{100, 29, 28}, [][2]int{{1, 0}, {2, 0}, {2, 29}}, []int{100, 57}},
		{[]int{64, 64, 64, 64}, [][2]int{{1, 0}, {1, 64}, {2, 0}, {2, 64}}, []int{128, 128}},
		{[]int{127, 127, 127}, [][2]int{{1, 0}, {2, 0}, {3, 0}}, []int{127, 127, 127}},
		{[]int{5, 128, 6, 0, 7, 256}, [][2]int{{1, 0}, {0, 0}, {1, 5}, {0, 0}, {1, 11}, {0, 0}}, []int{18}},
		{[]int{228, 156, 129}, [][2]int{{1, 0}, {1, 100}, {2, 0}}, []int{128, 1}},
	} {
		l := tails(x.sizes...)
		slices.Reverse(l)
		o := open(t, fmt.Sprint(x.sizes), built(t, fmt.Sprint(x.sizes), l))
		held := make([][]byte, len(x.held))
		end := 64
		for i, n := range x.sizes {
			r, _ := o.record(t, fmt.Sprintf("f%02d", i))
			if [2]int{r.Frag, r.Off} != x.want[i] || r.Size != n {
				t.Errorf("%v: file %d: %+v, wanted %v", x.sizes, i, r, x.want[i])
			}
			b := mixed(uint32(i), n, 255)
			end += len(framesOf(b[:n/128*128]))
			if f := x.want[i][0]; f > 0 {
				held[f-1] = append(held[f-1], b[n/128*128:]...)
			}
		}
		for i, b := range held {
			if len(b) != x.held[i] || o.super.Frags != len(held) || o.places[i] != end || !bytes.HasPrefix(o.image[end:], frameOf(b)) {
				t.Fatalf("%v: fragment %d: places %v, wanted %d", x.sizes, i+1, o.places, end)
			}
			end += len(frameOf(b))
		}
		if end != o.super.InodeAt {
			t.Errorf("%v: InodeAt %d, wanted %d", x.sizes, o.super.InodeAt, end)
		}
	}
}

// TestTailOfNoughts: a fragment of noughts is no hole, as a block of them is.
func TestTailOfNoughts(t *testing.T) {
	o := open(t, "noughts", built(t, "noughts", rooted(file("a", make([]byte, 255)), file("b", make([]byte, 1)))))
	blocksAre(t, "noughts", o, hole(), frameOf(make([]byte, 128)))
	lies(t, o, map[string]where{"a": {64, 255, 1, 0}, "b": {0, 1, 1, 127}})
}

// TestFilesAreLaidDownInCanonicalOrder: which is not that of paths, nor that of how deep they are.
func TestFilesAreLaidDownInCanonicalOrder(t *testing.T) {
	at := func(i int) []byte { return append(mixed(uint32(i), 128, 255), byte(i)) }
	l := rooted(
		dir("b"), dir("b/d"), dir("z"),
		file("c", at(6)), file("b/d/e", at(3)), file("z/a", at(7)), file("b/c", at(2)),
		file("b-", at(5)), file("a", at(1)), file("b/e", at(4)), file("zz", at(8)),
	)
	o := open(t, "in order", built(t, "in order", l))
	var frames [][]byte
	for i := range 8 {
		frames = append(frames, frameOf(mixed(uint32(i+1), 128, 255)))
	}
	blocksAre(t, "in order", o, slices.Concat(frames...), frameOf([]byte{1, 2, 3, 4, 5, 6, 7, 8}))
	lies(t, o, map[string]where{
		"a": {64, 129, 1, 0}, "b/c": {199, 129, 1, 1}, "b/d/e": {334, 129, 1, 2}, "b/e": {469, 129, 1, 3},
		"b-": {604, 129, 1, 4}, "c": {739, 129, 1, 5}, "z/a": {874, 129, 1, 6}, "zz": {1009, 129, 1, 7},
	})
}

// TestFilesThatAreOneAreLaidDownOnce: where the first of their names stands; their tails, too.
func TestFilesThatAreOneAreLaidDownOnce(t *testing.T) {
	for _, x := range []struct {
		what  string
		ones  []string
		other string
		first bool // whether the file of several names comes ahead of the other one
	}{
		{"in one directory, ahead", []string{"a", "c"}, "b", true},
		{"in one directory, behind", []string{"b", "c"}, "a", false},
		{"first below, ahead", []string{"d/a", "z"}, "f", true},
		{"first below, behind", []string{"d/b", "z"}, "d/a", false},
		{"first above, ahead", []string{"a", "d/a"}, "b", true},
		{"first above, behind", []string{"c", "d/a"}, "b", false},
		{"in two directories", []string{"d/z", "e/a"}, "e/0", true},
		{"deeper first", []string{"d/d/z", "d/z"}, "d/e", true},
		{"deeper later", []string{"d/c", "d/d/z"}, "d/d/a", true},
		{"five names", []string{"z", "y", "e/a", "d/d/a", "d/z"}, "e/0", true},
	} {
		one, other := append(rising(128), "one"...), append(spelt("128o"), "other"...)
		l := rooted(dir("d"), dir("d/d"), dir("e"), file(x.other, other))
		for _, path := range x.ones {
			l = append(l, numbered(file(path, one), 1))
		}
		o := open(t, x.what, built(t, x.what, l))
		want := map[string]where{x.other: {64 + 135, 133, 1, 3}}
		forOne := where{64, 131, 1, 0}
		frames := slices.Concat(frameOf(rising(128)), frameOf(spelt("128o")), frameOf([]byte("oneother")))
		if !x.first {
			want[x.other] = where{64, 133, 1, 0}
			forOne = where{64 + 11, 131, 1, 5}
			frames = slices.Concat(frameOf(spelt("128o")), frameOf(rising(128)), frameOf([]byte("otherone")))
		}
		for _, path := range x.ones {
			want[path] = forOne
		}
		lies(t, o, want)
		blocksAre(t, x.what, o, frames)
		if o.super.Inodes != 6 {
			t.Errorf("%s: %d records", x.what, o.super.Inodes)
		}
	}
}

// TestFilesThatAreAlikeAreNotOne: of two files with the same bytes each has a record and a tail of its own.
func TestFilesThatAreAlikeAreNotOne(t *testing.T) {
	b := append(spelt("128a"), "tail"...)
	o := open(t, "alike", built(t, "alike", rooted(file("a", b), file("b", b))))
	lies(t, o, map[string]where{"a": {64, 132, 1, 0}, "b": {64, 132, 1, 4}})
	blocksAre(t, "alike", o, frameOf(spelt("128a")), frameOf([]byte("tailtail")))
	if o.super.Inodes != 3 {
		t.Errorf("%d records", o.super.Inodes)
	}
}
