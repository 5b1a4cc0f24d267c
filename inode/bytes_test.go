package inode_test

import (
	"bytes"
	"slices"
	"strings"
	"testing"

	"lamella/api"
	"lamella/inode"
)

// P9.1: Put.

func TestPutByteByByte(t *testing.T) {
	for _, x := range []struct {
		why  string
		i    api.Inode
		want string
	}{
		{"the example", api.Inode{Kind: api.Link, Links: 1, Target: "ab"}, "\x03\x00\x00\x00\x00\x00\x00\x01\x00\x00\x00\x00\x00\x02\x61\x62"},
		{"a directory", aDir(), "\x01" + "\xa4\x01" + "\x02\x01" + "\x05\x04" + "\x01\x00" + "\x0b\x0a\x08\x07" + "\x1f\x1e\x1d\x1c" + "\x3f\x2e\x0d\x00"},
		{"a file", aFile(), "\x02" + "\xed\x01" + "\x07\x06" + "\x02\x03" + "\x08\x03" + "\xc4\xd3\xe2\xf1" + "\x54\x43\x32\x21" + "\x0c\x0b" + "\x05\x02" + "\x4d"},
		{"a file without a tail", aWhole(), "\x02" + "\xb6\x00" + "\x04\x05" + "\x03\x07" + "\x02\x00" + "\x04\x03\x02\x01" + "\xd4\xc3\xb2\xa1" + "\x80\x0e" + "\x00\x00" + "\x00"},
		{"a link", aLink(), "\x03" + "\xff\x01" + "\x01\x00" + "\x20\x07" + "\x01\x02" + "\x50\x60\x70\x80" + "\x0b../to/where"},
		{"the least directory", ends()[0], "\x01\x00\x00\x00\x00\x00\x00\x01\x00\x00\x00\x00\x00" + "\x00\x00\x00\x00\x00\x00\x00\x00"},
		{"the greatest directory", ends()[1], "\x01\xff\x01\xff\x07\xff\x07\x01\x00\xff\xff\xff\xff" + "\xff\xff\xff\xff\x00\x00\x10\x00"},
		{"the least file", ends()[2], "\x02\x00\x00\x00\x00\x00\x00\x01\x00\x00\x00\x00\x00" + "\x00\x00\x00\x00\x00\x00\x00\x00\x00"},
		{"the greatest file", ends()[3], "\x02\xff\x01\xff\x07\xff\x07\x00\x04\xff\xff\xff\xff" + "\xff\xff\xff\xff\x00\x10\x00\x00\x00"},
		{"the greatest tail", ends()[5], "\x02\xff\x01\xff\x07\xff\x07\x00\x04\xff\xff\xff\xff" + "\xff\xff\xff\xff\xff\x0f\x00\x04\x7f"},
		{"the greatest link", ends()[7], "\x03\xff\x01\xff\x07\xff\x07\x00\x04\xff\xff\xff\xff" + "\xc8" + strings.Repeat("\xff", 200)},
	} {
		if b, e := inode.Put(x.i); string(b) != x.want || e != api.OK {
			t.Errorf("%s: % x, %d, wanted % x", x.why, b, e, x.want)
		}
		takes(t, x.why, []byte(x.want), x.i)
	}
}

func TestPutOfWhatMayNotBe(t *testing.T) {
	for _, i := range []api.Inode{
		{}, {Kind: api.White, Links: 1}, {Kind: api.Dir}, {Kind: api.File}, {Kind: api.Link, Target: "a"},
		with(aDir(), "Links", 2), with(aDir(), "Size", 1<<20+1), with(aDir(), "Off", 1), with(aDir(), "Start", -1),
		with(aFile(), "Frag", 0), with(aFile(), "Size", 128), with(aFile(), "Off", 128), with(aWhole(), "Off", 1),
		withTarget(aLink(), ""), withTarget(aLink(), "a\x00"), withTarget(aLink(), strings.Repeat("a", 201)), with(aLink(), "Start", 1),
	} {
		if b, e := inode.Put(i); b != nil || e != api.ErrArg {
			t.Errorf("%+v: % x, %d, wanted ErrArg", i, b, e)
		}
	}
}

// P9.1: Take.

func TestTakeOfNoBytes(t *testing.T) {
	takesNot(t, "nil", nil)
	takesNot(t, "empty", []byte{})
	takesNot(t, "empty, with room", laid(aDir())[:0])
}

func TestTakeOfCutOnes(t *testing.T) {
	for _, i := range records() {
		b := laid(i)
		for n := range b {
			takesNot(t, "cut", b[:n])
			takesNot(t, "cut, without room", slices.Clone(b[:n]))
			takesNot(t, "cut ahead", b[len(b)-n:])
		}
		takes(t, "whole", b, i)
	}
}

func TestTakeOfLongerOnes(t *testing.T) {
	for _, i := range append(ends(), aDir(), aFile(), aWhole(), aLink()) {
		b := laid(i)
		for c := range 256 {
			takesNot(t, "a byte more", append(slices.Clone(b), byte(c)))
			takesAsAsked(t, "a byte ahead", append([]byte{byte(c)}, b...)) // noughts of a directory may be a file's
		}
		takesNot(t, "twice", append(slices.Clone(b), b...))
		takesNot(t, "many more", append(slices.Clone(b), mixed(1, 300)...))
	}
}

func TestTakeOfAnotherKind(t *testing.T) {
	for _, i := range append(ends(), aDir(), aFile(), aWhole(), aLink()) {
		b := laid(i)
		for c := range 256 {
			if c != i.Kind {
				b[0] = byte(c)
				takesNot(t, "another kind", b)
			}
		}
	}
	// bytes that are a link's are a file's with the Kind of one, if they may be
	b := laid(api.Inode{Kind: api.Link, Links: 1, Target: "\x01\x02\x03\x01\x01\x02\x01\x04"})
	b[0] = api.File
	takes(t, "a link's, as a file's", b, api.Inode{Kind: api.File, Links: 1, Start: 0x03020108, Size: 0x0101, Frag: 0x0102, Off: 4})
	b[0] = api.Link
	takes(t, "a link's", b, api.Inode{Kind: api.Link, Links: 1, Target: "\x01\x02\x03\x01\x01\x02\x01\x04"})
}

// TestTakeOfNumbersThatMayNotBe, though they fit their bytes.
func TestTakeOfNumbersThatMayNotBe(t *testing.T) {
	for _, i := range []api.Inode{aDir(), aFile(), aWhole(), aLink()} {
		for _, n := range []int{512, 513, 1023, 32768, 65535} {
			takesNot(t, "Mode", laid(with(i, "Mode", n)))
		}
		for _, n := range []int{2048, 2049, 4095, 65535} {
			takesNot(t, "Uid", laid(with(i, "Uid", n)))
			takesNot(t, "Gid", laid(with(i, "Gid", n)))
		}
		for _, n := range []int{0, 1025, 2048, 65535} {
			takesNot(t, "Links", laid(with(i, "Links", n)))
		}
	}
	for _, n := range []int{2, 3, 256, 257, 1024} {
		takesNot(t, "Links of a directory", laid(with(aDir(), "Links", n)))
	}
	for _, n := range []int{1<<20 + 1, 1 << 21, 1 << 31, 1<<32 - 1} {
		takesNot(t, "Size of a directory", laid(with(aDir(), "Size", n)))
	}
	for _, n := range []int{0, 128, 1024, 4096, 4097, 8192, 65535} {
		takesNot(t, "Size with a fragment", laid(with(aFile(), "Size", n)))
	}
	for _, n := range []int{1, 127, 129, 4095, 4097, 4224, 65535} {
		takesNot(t, "Size without a fragment", laid(with(aWhole(), "Size", n)))
	}
	for _, n := range []int{0, 1025, 2048, 65535} {
		takesNot(t, "Frag", laid(with(aFile(), "Frag", n)))
	}
	for n := 128; n < 256; n++ {
		takesNot(t, "Off", laid(with(aFile(), "Off", n)))
	}
	for n := 1; n < 256; n++ {
		takesNot(t, "Off without a fragment", laid(with(aWhole(), "Off", n)))
	}
}

func TestTakeOfTargets(t *testing.T) {
	head := laid(aLink())[:13]
	text := func(n int, letters string) []byte {
		return append(append(slices.Clone(head), byte(n)), letters...)
	}
	long := strings.Repeat("abcd", 64)
	for n := range 256 {
		if n >= 1 && n <= 200 {
			takes(t, "a target", text(n, long[:n]), withTarget(aLink(), long[:n]))
		} else {
			takesNot(t, "a target", text(n, long[:n]))
		}
		takesNot(t, "a letter more", text(n, long[:n+1]))
		if n > 0 {
			takesNot(t, "a letter fewer", text(n, long[:n-1]))
		}
	}
	for _, letters := range []string{"\x00", "\x00a", "a\x00", "a\x00b", "\xff\x00\xff", long[:199] + "\x00"} {
		takesNot(t, "a byte 0", text(len(letters), letters))
	}
	for _, letters := range []string{"\xff", "\xc3", "\xed\xa0\x80", "\x80\x80", "a\xfeb"} {
		takes(t, "no letters of UTF-8", text(len(letters), letters), withTarget(aLink(), letters))
	}
}

// TestTakeOfTurnedBytes turns each byte into every other one: there is no sum here, so what may be is another record.
func TestTakeOfTurnedBytes(t *testing.T) {
	taken, refused := 0, 0
	for _, i := range append(ends(), aDir(), aFile(), aWhole(), aLink()) {
		b := laid(i)
		for at := range b {
			for turn := 1; turn < 256; turn++ {
				b[at] ^= byte(turn)
				if takesAsAsked(t, "turned", b) == api.OK {
					taken++
				} else {
					refused++
				}
				b[at] ^= byte(turn)
			}
		}
	}
	if taken < 1000 || refused < 1000 {
		t.Errorf("%d taken, %d refused", taken, refused)
	}
}

func TestTakeOfHighestBytesFirst(t *testing.T) {
	for _, i := range []api.Inode{aDir(), aFile(), aWhole(), aLink()} {
		b := laid(i)
		for _, at := range []int{1, 3, 5, 7} {
			slices.Reverse(b[at : at+2])
		}
		takesNot(t, "highest bytes first", b)
	}
}

func TestTakeOfAnyBytes(t *testing.T) {
	for seed := range uint32(300) {
		b := mixed(seed, int(seed))
		takesAsAsked(t, "any bytes", b)
		takesNot(t, "noughts", make([]byte, seed))
		for kind := range 5 {
			if len(b) > 0 {
				b[0] = byte(kind)
				takesAsAsked(t, "any bytes of a kind", b)
			}
			row := bytes.Repeat([]byte{byte(kind)}, int(seed))
			takesAsAsked(t, "one byte again and again", row)
		}
	}
}

// P9.2: Take of Put.

func TestTakeOfPut(t *testing.T) {
	for _, i := range records() {
		b, e := inode.Put(i)
		if e != api.OK {
			t.Fatalf("Put of %+v: %d", i, e)
		}
		takes(t, "what was put", b, i)
		takes(t, "with room behind it", append(slices.Clone(b), 1, 2, 3)[:len(b)], i)
	}
}

// R6, R7.

func TestBytesThatAreHandedInStay(t *testing.T) {
	for _, i := range append(ends(), aDir(), aFile(), aWhole(), aLink()) {
		for _, b := range [][]byte{laid(i), laid(i)[:10], laid(with(i, "Mode", 512)), mixed(5, 40)} {
			room := append(append(mixed(1, 16), b...), mixed(2, 300)...)
			before := slices.Clone(room)
			handed := room[16 : 16+len(b) : len(room)]
			first, e := inode.Take(handed)
			if again, e2 := inode.Take(handed); again != first || e2 != e {
				t.Errorf("another answer the second time: %+v, %d", again, e2)
			}
			if !bytes.Equal(room, before) {
				t.Error("bytes changed")
			}
		}
	}
}

func TestWhatIsAnsweredIsTheCallers(t *testing.T) {
	for _, i := range append(ends(), aDir(), aFile(), aWhole(), aLink()) {
		first, _ := inode.Put(i)
		taken, _ := inode.Take(first)
		clear(first[:cap(first)])
		if taken != i {
			t.Errorf("Take's answer behind a change of the bytes: %+v, wanted %+v", taken, i)
		}
		second, _ := inode.Put(i)
		third, _ := inode.Put(i)
		clear(third[:cap(third)])
		_ = append(third, mixed(9, 300)...)
		if !bytes.Equal(second, laid(i)) {
			t.Errorf("Put behind a change of its answers: % x, wanted % x", second, laid(i))
		}
	}
}
