package inode_test

import (
	"bytes"
	"fmt"
	"math"
	"strings"
	"testing"

	"lamella/api"
	"lamella/inode"
)

// mixed is n bytes, the same ones in each run of the tests.
func mixed(seed uint32, n int) []byte {
	b := make([]byte, n)
	for i := range b {
		seed = seed*1664525 + 1013904223
		b[i] = byte(seed >> 16)
	}
	return b
}

// aDir, aFile, aWhole (a file without a tail) and aLink have no two numbers, and no two bytes of a number, that are the same.
func aDir() api.Inode {
	return api.Inode{Kind: api.Dir, Mode: 0x1a4, Uid: 0x0102, Gid: 0x0405, Links: 1, Xattr: 0x07080a0b, Start: 0x1c1d1e1f, Size: 0x0d2e3f}
}

func aFile() api.Inode {
	return api.Inode{Kind: api.File, Mode: 0x1ed, Uid: 0x0607, Gid: 0x0302, Links: 0x0308, Xattr: 0xf1e2d3c4, Start: 0x21324354, Size: 0x0b0c, Frag: 0x0205, Off: 0x4d}
}

func aWhole() api.Inode {
	return api.Inode{Kind: api.File, Mode: 0x0b6, Uid: 0x0504, Gid: 0x0703, Links: 2, Xattr: 0x01020304, Start: 0xa1b2c3d4, Size: 0x0e80}
}

func aLink() api.Inode {
	return api.Inode{Kind: api.Link, Mode: 0x1ff, Uid: 0x0001, Gid: 0x0720, Links: 0x0201, Xattr: 0x80706050, Target: "../to/where"}
}

func withTarget(i api.Inode, s string) api.Inode {
	i.Target = s
	return i
}

// ends are the least and the greatest record of each kind.
func ends() []api.Inode {
	const ref = 1<<32 - 1
	return []api.Inode{
		{Kind: api.Dir, Links: 1},
		{Kind: api.Dir, Mode: 511, Uid: 2047, Gid: 2047, Links: 1, Xattr: ref, Start: ref, Size: 1 << 20},
		{Kind: api.File, Links: 1},
		{Kind: api.File, Mode: 511, Uid: 2047, Gid: 2047, Links: 1024, Xattr: ref, Start: ref, Size: 4096},
		{Kind: api.File, Links: 1, Size: 1, Frag: 1},
		{Kind: api.File, Mode: 511, Uid: 2047, Gid: 2047, Links: 1024, Xattr: ref, Start: ref, Size: 4095, Frag: 1024, Off: 127},
		{Kind: api.Link, Links: 1, Target: "a"},
		{Kind: api.Link, Mode: 511, Uid: 2047, Gid: 2047, Links: 1024, Xattr: ref, Target: strings.Repeat("\xff", 200)},
	}
}

// records are some that may be, of all kinds.
func records() []api.Inode {
	all := append(ends(), aDir(), aFile(), aWhole(), aLink())
	for seed := range uint32(120) {
		b := mixed(seed, 250)
		number := func(at int) int { return int(b[at]) | int(b[at+1])<<8 | int(b[at+2])<<16 | int(b[at+3])<<24 }
		i := api.Inode{Kind: int(1 + seed%3), Mode: number(0) % 512, Uid: number(4) % 2048, Gid: number(8) % 2048, Links: 1, Xattr: number(12)}
		switch i.Kind {
		case api.Dir:
			i.Start, i.Size = number(16), number(20)%(1<<20+1)
		case api.File:
			i.Links, i.Start, i.Size = 1+number(24)%1024, number(16), number(20)%4097
			if i.Size%128 != 0 {
				i.Frag, i.Off = 1+number(28)%1024, number(32)%128
			}
		case api.Link:
			i.Links, i.Target = 1+number(24)%1024, strings.ReplaceAll(string(b[40:41+number(28)%200]), "\x00", "\x01")
		}
		all = append(all, i)
	}
	return all
}

// field is one of a record's numbers.
type field struct {
	name string
	of   func(i *api.Inode) *int
}

func fields() []field {
	return []field{
		{"Kind", func(i *api.Inode) *int { return &i.Kind }},
		{"Mode", func(i *api.Inode) *int { return &i.Mode }},
		{"Uid", func(i *api.Inode) *int { return &i.Uid }},
		{"Gid", func(i *api.Inode) *int { return &i.Gid }},
		{"Links", func(i *api.Inode) *int { return &i.Links }},
		{"Xattr", func(i *api.Inode) *int { return &i.Xattr }},
		{"Start", func(i *api.Inode) *int { return &i.Start }},
		{"Size", func(i *api.Inode) *int { return &i.Size }},
		{"Frag", func(i *api.Inode) *int { return &i.Frag }},
		{"Off", func(i *api.Inode) *int { return &i.Off }},
	}
}

func (f field) set(i api.Inode, n int) api.Inode {
	*f.of(&i) = n
	return i
}

// with is a record of which the field of that name is another number.
func with(i api.Inode, name string, n int) api.Inode {
	for _, f := range fields() {
		if f.name == name {
			return f.set(i, n)
		}
	}
	panic(name)
}

// slowMay is the chapter's record that may be, word by word.
func slowMay(i api.Inode) bool {
	if i.Mode < 0 || i.Mode > 511 || i.Uid < 0 || i.Uid > 2047 || i.Gid < 0 || i.Gid > 2047 {
		return false
	}
	if i.Links < 1 || i.Links > 1024 || i.Xattr < 0 || i.Xattr > 4294967295 {
		return false
	}
	own := i
	own.Mode, own.Uid, own.Gid, own.Links, own.Xattr = 0, 0, 0, 0, 0
	switch i.Kind {
	case 1:
		return i.Links == 1 && i.Start >= 0 && i.Start <= 4294967295 && i.Size >= 0 && i.Size <= 1048576 &&
			own == api.Inode{Kind: 1, Start: i.Start, Size: i.Size}
	case 2:
		if i.Start < 0 || i.Start > 4294967295 || i.Size < 0 || i.Size > 4096 || i.Target != "" {
			return false
		}
		for whole := 0; whole <= 4096; whole += 128 {
			if i.Size == whole {
				return i.Frag == 0 && i.Off == 0
			}
		}
		return i.Frag >= 1 && i.Frag <= 1024 && i.Off >= 0 && i.Off <= 127
	case 3:
		for at := range len(i.Target) {
			if i.Target[at] == 0 {
				return false
			}
		}
		return len(i.Target) >= 1 && len(i.Target) <= 200 && own == api.Inode{Kind: 3, Target: i.Target}
	}
	return false
}

// laid are the bytes of any record of a kind; of a number that does not fit, the bytes that do.
func laid(i api.Inode) []byte {
	var b []byte
	number := func(n, width int) {
		for range width {
			b = append(b, byte(n))
			n >>= 8
		}
	}
	number(i.Kind, 1)
	number(i.Mode, 2)
	number(i.Uid, 2)
	number(i.Gid, 2)
	number(i.Links, 2)
	number(i.Xattr, 4)
	switch i.Kind {
	case api.Dir:
		number(i.Start, 4)
		number(i.Size, 4)
	case api.File:
		number(i.Start, 4)
		number(i.Size, 2)
		number(i.Frag, 2)
		number(i.Off, 1)
	case api.Link:
		number(len(i.Target), 1)
		b = append(b, i.Target...)
	}
	return b
}

// slowTake holds bytes against those of the record that they could be.
func slowTake(b []byte) (api.Inode, api.Errno) {
	number := func(at, width int) int {
		n := 0
		for i := width - 1; i >= 0; i-- {
			n *= 256
			if at+i < len(b) {
				n += int(b[at+i])
			}
		}
		return n
	}
	i := api.Inode{Kind: number(0, 1), Mode: number(1, 2), Uid: number(3, 2), Gid: number(5, 2), Links: number(7, 2), Xattr: number(9, 4)}
	switch i.Kind {
	case 1:
		i.Start, i.Size = number(13, 4), number(17, 4)
	case 2:
		i.Start, i.Size, i.Frag, i.Off = number(13, 4), number(17, 2), number(19, 2), number(21, 1)
	case 3:
		i.Target = string(b[min(14, len(b)):])
	}
	if !slowMay(i) || !bytes.Equal(laid(i), b) {
		return api.Inode{}, api.ErrCorrupt
	}
	return i, api.OK
}

func takes(t *testing.T, why string, b []byte, want api.Inode) {
	t.Helper()
	if i, e := inode.Take(b); i != want || e != api.OK {
		t.Errorf("%s: Take(% x): %+v, %d, wanted %+v", why, b, i, e, want)
	}
}

func takesNot(t *testing.T, why string, b []byte) {
	t.Helper()
	if i, e := inode.Take(b); i != (api.Inode{}) || e != api.ErrCorrupt {
		t.Errorf("%s: Take(% x): %+v, %d, wanted ErrCorrupt", why, b, i, e)
	}
}

// takesAsAsked holds Take against the chapter taken word by word.
func takesAsAsked(t *testing.T, why string, b []byte) api.Errno {
	t.Helper()
	want, e := slowTake(b)
	if e == api.OK {
		takes(t, why, b, want)
	} else {
		takesNot(t, why, b)
	}
	return e
}

// mayBe holds May, Put and Take of a record against whether it may be.
func mayBe(t *testing.T, why string, i api.Inode, want bool) {
	t.Helper()
	if inode.May(i) != want || slowMay(i) != want {
		t.Errorf("%s: May is %v, word by word %v, wanted %v: %+v", why, inode.May(i), slowMay(i), want, i)
	}
	b, e := inode.Put(i)
	if want && (!bytes.Equal(b, laid(i)) || e != api.OK) {
		t.Errorf("%s: Put: % x, %d, wanted % x", why, b, e, laid(i))
	}
	if !want && (b != nil || e != api.ErrArg) {
		t.Errorf("%s: Put: % x, %d, wanted ErrArg", why, b, e)
	}
	if want {
		takes(t, why, b, i)
	}
	takesAsAsked(t, why, laid(i)) // what does not fit its bytes is there as another number
}

// P9.1: May.

func TestRecordsThatMayBe(t *testing.T) {
	for at, i := range records() {
		mayBe(t, fmt.Sprint("record ", at), i, true)
	}
}

func TestKinds(t *testing.T) {
	for kind := -2; kind < 300; kind++ {
		bare := api.Inode{Kind: kind, Links: 1}
		mayBe(t, "a kind alone", bare, kind == api.Dir || kind == api.File)
		mayBe(t, "with a target", withTarget(bare, "a"), kind == api.Link)
		mayBe(t, "of a directory", with(aDir(), "Kind", kind), kind == api.Dir)
		mayBe(t, "of a file", with(aFile(), "Kind", kind), kind == api.File)
	}
	mayBe(t, "nothing", api.Inode{}, false)
	mayBe(t, "a White", api.Inode{Kind: api.White, Links: 1}, false)
}

// TestBoundsOfAllKinds: of the fields that each kind has.
func TestBoundsOfAllKinds(t *testing.T) {
	for _, i := range []api.Inode{aDir(), aFile(), aWhole(), aLink(), {Kind: api.Dir, Links: 1}, {Kind: api.File, Links: 1}, {Kind: api.Link, Links: 1, Target: "a"}} {
		for _, x := range []struct {
			name        string
			least, most int
		}{{"Mode", 0, 511}, {"Uid", 0, 2047}, {"Gid", 0, 2047}, {"Xattr", 0, 1<<32 - 1}} {
			mayBe(t, x.name+" below", with(i, x.name, x.least-1), false)
			mayBe(t, x.name+" least", with(i, x.name, x.least), true)
			mayBe(t, x.name+" most", with(i, x.name, x.most), true)
			mayBe(t, x.name+" above", with(i, x.name, x.most+1), false)
		}
		many := i.Kind != api.Dir
		for links, want := range map[int]bool{-1: false, 0: false, 1: true, 2: many, 3: many, 1023: many, 1024: many, 1025: false} {
			mayBe(t, fmt.Sprint("Links ", links), with(i, "Links", links), want)
		}
	}
}

func TestStarts(t *testing.T) {
	for _, i := range []api.Inode{aDir(), aFile(), aWhole(), {Kind: api.Dir, Links: 1}, {Kind: api.File, Links: 1}} {
		for start, want := range map[int]bool{-1: false, 0: true, 1: true, 1<<31 - 1: true, 1 << 31: true, 1<<32 - 1: true, 1 << 32: false} {
			mayBe(t, fmt.Sprint("Start ", start), with(i, "Start", start), want)
		}
	}
}

func TestSizesOfFiles(t *testing.T) {
	for _, size := range []int{-1, 0, 127, 128, 129, 4095, 4096, 4097} {
		for _, frag := range []int{-1, 0, 1, 1024, 1025} {
			whole := size == 0 || size == 128 || size == 4096
			tail := size == 127 || size == 129 || size == 4095
			want := whole && frag == 0 || tail && (frag == 1 || frag == 1024)
			i := with(with(aWhole(), "Size", size), "Frag", frag)
			mayBe(t, fmt.Sprint("Size ", size, ", Frag ", frag), i, want)
			for off, fits := range map[int]bool{-1: false, 0: true, 1: tail, 127: tail, 128: false} {
				mayBe(t, fmt.Sprint("Size ", size, ", Frag ", frag, ", Off ", off), with(i, "Off", off), want && fits)
			}
			mayBe(t, fmt.Sprint("Size ", size, ", Frag ", frag, ", a target"), withTarget(i, "a"), false)
		}
	}
}

// TestAnySizeOfAFile goes through all sizes, with and without what a tail has.
func TestAnySizeOfAFile(t *testing.T) {
	may := 0
	for size := -300; size < 4400; size++ {
		for _, frag := range []int{-1, 0, 1, 2, 1024, 1025} {
			for _, off := range []int{-1, 0, 1, 127, 128} {
				i := api.Inode{Kind: api.File, Links: 1, Size: size, Frag: frag, Off: off}
				if inode.May(i) != slowMay(i) {
					t.Fatalf("May is %v: %+v", inode.May(i), i)
				}
				if slowMay(i) {
					may++
				}
			}
		}
	}
	if want := 33 + (4097-33)*9; may != want {
		t.Errorf("%d may be, wanted %d", may, want)
	}
}

func TestFragments(t *testing.T) {
	for frag := -2; frag < 1100; frag++ {
		want := frag >= 1 && frag <= 1024
		mayBe(t, "of a tail", with(aFile(), "Frag", frag), want)
		mayBe(t, "without a tail", with(aWhole(), "Frag", frag), frag == 0)
	}
	for off := -2; off < 300; off++ {
		mayBe(t, "of a tail", with(aFile(), "Off", off), off >= 0 && off <= 127)
		mayBe(t, "without a tail", with(aWhole(), "Off", off), off == 0)
	}
}

func TestSizesOfDirectories(t *testing.T) {
	for size, want := range map[int]bool{-1: false, 0: true, 1: true, 127: true, 128: true, 4097: true, 65536: true, 1<<20 - 1: true, 1 << 20: true, 1<<20 + 1: false, 1 << 32: false} {
		mayBe(t, fmt.Sprint("Size ", size), with(aDir(), "Size", size), want)
	}
}

// TestWhatAKindHasNot: each field that a kind has not is its zero.
func TestWhatAKindHasNot(t *testing.T) {
	for _, n := range []int{-1, 1, 2, 127, 128, 256, 65536, 1 << 32} {
		for _, name := range []string{"Frag", "Off"} {
			mayBe(t, name+" of a directory", with(aDir(), name, n), false)
		}
		for _, name := range []string{"Start", "Size", "Frag", "Off"} {
			mayBe(t, name+" of a link", with(aLink(), name, n), false)
		}
	}
	for _, target := range []string{"a", "\x00", strings.Repeat("a", 200), strings.Repeat("a", 256)} {
		mayBe(t, "target of a directory", withTarget(aDir(), target), false)
		mayBe(t, "target of a file", withTarget(aFile(), target), false)
		mayBe(t, "target of a whole file", withTarget(aWhole(), target), false)
	}
}

func TestTargets(t *testing.T) {
	long := strings.Repeat("abcd", 100)
	for n := range 300 {
		mayBe(t, fmt.Sprint("target of ", n), withTarget(aLink(), long[:n]), n >= 1 && n <= 200)
	}
	for _, n := range []int{1, 2, 3, 100, 199, 200} { // a byte 0 at each place
		for at := range n {
			mayBe(t, fmt.Sprint("a byte 0 at ", at, " of ", n), withTarget(aLink(), long[:at]+"\x00"+long[at+1:n]), false)
		}
	}
	for _, target := range []string{"\x00", "\x00\x00", "ab\x00", "\x00ab", "a\x00b", "\xff\x00", "\xc3\x00\x00"} {
		mayBe(t, "a byte 0", withTarget(aLink(), target), false)
	}
	for c := 1; c < 256; c++ { // any other byte, letters of UTF-8 or not
		one := string([]byte{byte(c)})
		mayBe(t, "one byte", withTarget(aLink(), one), true)
		mayBe(t, "among others", withTarget(aLink(), "a"+one+"b"), true)
	}
	for _, target := range []string{"\xff\xfe", "\xc3", "\xe2\x82", "a\x80b", "é€😀", "\xed\xa0\x80", "\xf8\x88\x80\x80\x80", "/", "..", " ", "\n", "30"} {
		mayBe(t, "any bytes", withTarget(aLink(), target), true)
	}
	// bytes are counted, not letters
	mayBe(t, "100 letters", withTarget(aLink(), strings.Repeat("é", 100)), true)
	mayBe(t, "101 letters", withTarget(aLink(), strings.Repeat("é", 101)), false)
	mayBe(t, "very long", withTarget(aLink(), strings.Repeat("a", 1<<20)), false)
	mayBe(t, "256 and 2", withTarget(aLink(), strings.Repeat("a", 258)), false)
}

// TestFarNumbers: the least and the greatest int, and what is like a number that may be in its lowest bytes alone.
func TestFarNumbers(t *testing.T) {
	for _, i := range append(ends(), aDir(), aFile(), aWhole(), aLink()) {
		for _, f := range fields() {
			for _, n := range []int{math.MinInt, math.MinInt + 1, math.MaxInt - 1, math.MaxInt} {
				mayBe(t, f.name, f.set(i, n), false)
			}
			for shift := 8; shift < 64; shift++ {
				high := 1 << shift
				for _, n := range []int{high, -high, high - 1, *f.of(&i) + high, *f.of(&i) - high, *f.of(&i) | high} {
					mayBe(t, f.name, f.set(i, n), slowMay(f.set(i, n)))
				}
			}
		}
	}
}

// TestNearNumbers: each field goes through all numbers around its bounds.
func TestNearNumbers(t *testing.T) {
	for _, i := range append(ends(), aDir(), aFile(), aWhole(), aLink()) {
		for _, f := range fields() {
			for n := -10; n < 4200; n++ {
				if x := f.set(i, n); inode.May(x) != slowMay(x) {
					t.Fatalf("%s: May is %v: %+v", f.name, inode.May(x), x)
				}
			}
		}
	}
}
