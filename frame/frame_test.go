package frame_test

import (
	"bytes"
	"hash/crc32"
	"math"
	"slices"
	"strings"
	"testing"

	"lamella/api"
	"lamella/crc"
	"lamella/frame"
	"lamella/lz"
)

// mixed is n bytes of an alphabet of so many letters, the same ones in each run of the tests.
func mixed(seed uint32, n, letters int) []byte {
	b := make([]byte, n)
	for i := range b {
		seed = seed*1664525 + 1013904223
		b[i] = byte(int(seed>>16) % letters)
	}
	return b
}

// rising is n bytes of which no three stand twice, so that they pack to more.
func rising(n int) []byte {
	b := make([]byte, n)
	for i := range b {
		b[i] = byte(i)
	}
	return b
}

func newTable() *crc.Table {
	t := crc.New()
	return &t
}

// strange is a table of no rule.
func strange() *crc.Table {
	var t crc.Table
	for i := range t {
		t[i] = uint32(i)*2654435761 ^ 0x9e3779b9
	}
	return &t
}

// build is a frame word by word: of any payload, stored or not, with any number.
func build(sum uint32, number int, payload []byte) []byte {
	low, high := number%256, number/256
	b := []byte{byte(low), byte(high), byte(255 - (low ^ high))}
	if len(payload) > 0 {
		for range 4 {
			b = append(b, byte(sum%256))
			sum /= 256
		}
	}
	return append(b, payload...)
}

// storedFrame and packedFrame have New's sum.
func storedFrame(payload []byte) []byte {
	return build(crc32.ChecksumIEEE(payload), len(payload)+32768, payload)
}

func packedFrame(payload []byte) []byte {
	return build(crc32.ChecksumIEEE(payload), len(payload), payload)
}

// slowTake is P4.2 word by word; sums and payloads are looked at only if t is not nil.
func slowTake(t *crc.Table, image []byte, at int) ([]byte, int, api.Errno) {
	if at < 0 || at >= len(image) || len(image[at:]) < 3 {
		return nil, 0, api.ErrCorrupt
	}
	low, high, check := int(image[at]), int(image[at+1]), int(image[at+2])
	if check != 255-(low^high) {
		return nil, 0, api.ErrCorrupt
	}
	isStored, n := high >= 128, high%128*256+low
	if n == 0 && !isStored {
		return nil, at + 3, api.OK
	}
	if n < 1 || n > 128 || len(image[at:]) < 7+n {
		return nil, 0, api.ErrCorrupt
	}
	next := at + 7 + n
	if t == nil {
		return nil, next, api.OK
	}
	sum := uint32(0)
	for i := 6; i >= 3; i-- {
		sum = sum*256 + uint32(image[at+i])
	}
	b := slices.Clone(image[at+7 : next])
	if t.Sum(b) != sum {
		return nil, 0, api.ErrCorrupt
	}
	if !isStored {
		var e api.Errno
		if b, e = lz.Unpack(b, 128); e != api.OK || len(b) == 0 {
			return nil, 0, api.ErrCorrupt
		}
	}
	return b, next, api.OK
}

// takes holds Take and Skip against what is wanted.
func takes(t *testing.T, why string, table *crc.Table, image []byte, at int, want []byte, next int) {
	t.Helper()
	b, n, e := frame.Take(table, image, at)
	if !bytes.Equal(b, want) || n != next || e != api.OK {
		t.Errorf("%s: Take: % x, %d, %d, wanted % x, %d", why, b, n, e, want, next)
	}
	skips(t, why, image, at, next)
}

func skips(t *testing.T, why string, image []byte, at int, next int) {
	t.Helper()
	if n, e := frame.Skip(image, at); n != next || e != api.OK {
		t.Errorf("%s: Skip: %d, %d, wanted %d", why, n, e, next)
	}
}

func takesNot(t *testing.T, why string, table *crc.Table, image []byte, at int) {
	t.Helper()
	if b, n, e := frame.Take(table, image, at); b != nil || n != 0 || e != api.ErrCorrupt {
		t.Errorf("%s: Take: % x, %d, %d, wanted ErrCorrupt", why, b, n, e)
	}
}

func skipsNot(t *testing.T, why string, image []byte, at int) {
	t.Helper()
	if n, e := frame.Skip(image, at); n != 0 || e != api.ErrCorrupt {
		t.Errorf("%s: Skip: %d, %d, wanted ErrCorrupt", why, n, e)
	}
}

func isNone(t *testing.T, why string, image []byte, at int) {
	t.Helper()
	takesNot(t, why, newTable(), image, at)
	skipsNot(t, why, image, at)
}

func put(t *testing.T, table *crc.Table, b []byte) []byte {
	t.Helper()
	f, e := frame.Put(table, b)
	if e != api.OK {
		t.Fatalf("Put of %d bytes: %d", len(b), e)
	}
	return f
}

// rows are bytes that frames are put of: all lengths, packed and stored.
func rows() [][]byte {
	all := [][]byte{nil, {}, []byte("ab"), []byte("aaa"), []byte("aaaa"), []byte("aaaaa"), []byte("abcabcabcd")}
	for n := 0; n <= 128; n++ {
		all = append(all, make([]byte, n), rising(n))
		for _, letters := range []int{2, 5, 256} {
			all = append(all, mixed(uint32(n+letters), n, letters))
		}
	}
	return all
}

func TestExamplesOfTheChapter(t *testing.T) {
	table := newTable()
	if f, e := frame.Put(table, nil); !bytes.Equal(f, []byte{0, 0, 255}) || e != api.OK {
		t.Errorf("Put of none: % x, %d", f, e)
	}
	f := put(t, table, []byte("ab"))
	if len(f) != 9 || !bytes.Equal(f[:3], []byte{2, 128, 125}) {
		t.Errorf("Put of ab: % x", f)
	}
	takes(t, "at 0", table, f, 0, []byte("ab"), 9)
	isNone(t, "at 1", f, 1)
}

// P4.1.

func TestPutTable(t *testing.T) {
	wide := string(rising(128))
	for _, x := range []struct{ why, in, head, payload string }{
		{"a byte", "a", "\x01\x80\x7e", "a"},
		{"packs to more", "abc", "\x03\x80\x7c", "abc"},
		{"packs to as many", "aaaa", "\x04\x80\x7b", "aaaa"},
		{"packs to one fewer", "aaaaa", "\x04\x00\xfb", "\x00a\x81\x00"},
		{"the example of chapter 1", "abcabcabcd", "\x08\x00\xf7", "\x02abc\x83\x02\x00d"},
		{"127 bytes, more", wide[:127], "\x7f\x80\x00", wide[:127]},
		{"128 bytes, more", wide, "\x80\x80\xff", wide},
		{"128 bytes, as many", wide[:125] + wide[:3], "\x80\x80\xff", wide[:125] + wide[:3]},
		{"128 bytes, one fewer", wide[:124] + wide[:4], "\x7f\x00\x80", "\x7b" + wide[:124] + "\x81\x7b"},
		{"127 bytes of one kind", strings.Repeat("a", 127), "\x04\x00\xfb", "\x00a\xfb\x00"},
		{"128 bytes of one kind", strings.Repeat("a", 128), "\x04\x00\xfb", "\x00a\xfc\x00"},
		{"128 noughts are no hole", strings.Repeat("\x00", 128), "\x04\x00\xfb", "\x00\x00\xfc\x00"},
		{"a nought is no hole", "\x00", "\x01\x80\x7e", "\x00"},
	} {
		sum := crc32.ChecksumIEEE([]byte(x.payload))
		want := x.head + string([]byte{byte(sum), byte(sum >> 8), byte(sum >> 16), byte(sum >> 24)}) + x.payload
		if f, e := frame.Put(newTable(), []byte(x.in)); string(f) != want || e != api.OK {
			t.Errorf("%s: % x, %d, wanted % x", x.why, f, e, want)
		}
	}
}

func TestPutOfNone(t *testing.T) {
	for _, b := range [][]byte{nil, {}, make([]byte, 0, 9)} {
		for _, table := range []*crc.Table{newTable(), strange(), nil} {
			if f, e := frame.Put(table, b); !bytes.Equal(f, []byte{0, 0, 255}) || e != api.OK {
				t.Errorf("% x, %d", f, e)
			}
		}
	}
}

func TestPutOfTooMany(t *testing.T) {
	for _, n := range []int{129, 130, 255, 256, 4096, 4097, 70000} {
		for _, b := range [][]byte{make([]byte, n), rising(n)} {
			if f, e := frame.Put(newTable(), b); f != nil || e != api.ErrBig {
				t.Errorf("%d bytes: % x, %d", n, f, e)
			}
		}
	}
}

func TestPutIsTheRule(t *testing.T) {
	kinds := [3]int{}
	for _, table := range []*crc.Table{newTable(), strange(), {}} {
		for _, b := range rows() {
			packed, _ := lz.Pack(b)
			want := build(table.Sum(b), len(b)+32768, b)
			switch {
			case len(b) == 0:
				want = []byte{0, 0, 255}
			case len(packed) < len(b):
				want = build(table.Sum(packed), len(packed), packed)
				kinds[0]++
			case len(packed) == len(b):
				kinds[1]++
			default:
				kinds[2]++
			}
			if f := put(t, table, b); !bytes.Equal(f, want) {
				t.Errorf("% x: % x, wanted % x", b, f, want)
			}
		}
	}
	if kinds[0] == 0 || kinds[1] == 0 || kinds[2] == 0 {
		t.Errorf("fewer, as many, more: %d", kinds)
	}
}

// P4.2: places.

func TestPlaces(t *testing.T) {
	table := newTable()
	parts := [][]byte{[]byte("ab"), nil, bytes.Repeat([]byte("xyz"), 40), rising(128), nil, nil, []byte("q")}
	var image []byte
	begins := map[int]bool{}
	for _, p := range parts {
		begins[len(image)] = true
		image = append(image, put(t, table, p)...)
	}
	for i, place := 0, 0; place < len(image); i++ {
		next, e := frame.Skip(image, place)
		if e != api.OK {
			t.Fatalf("frame %d: %d", i, e)
		}
		takes(t, "one behind the other", table, image, place, parts[i], next)
		place = next
	}
	for place := range image {
		if !begins[place] {
			takesNot(t, "within a frame", table, image, place)
		}
	}
	for _, place := range []int{-1, -2, -3, -9, math.MinInt, math.MinInt + 3, len(image) - 1, len(image) - 2, len(image), len(image) + 1, len(image) + 3, 1 << 31, 1 << 32, 1 << 40, math.MaxInt, math.MaxInt - 1, math.MaxInt - 2, math.MaxInt - 3, math.MaxInt - 7, math.MaxInt - 135} {
		isNone(t, "no place", image, place)
	}
}

func TestImagesWithoutFrames(t *testing.T) {
	for _, image := range [][]byte{nil, {}, {0}, {0, 0}, {255, 255}} {
		for at := -4; at < 6; at++ {
			isNone(t, "too short", image, at)
		}
	}
	isNone(t, "three noughts", []byte{0, 0, 0}, 0)
	isNone(t, "three bytes 255", []byte{255, 255, 255}, 0)
}

func TestImageThatEndsWithinAFrame(t *testing.T) {
	for _, b := range [][]byte{nil, []byte("a"), []byte("aaaaa"), rising(128), make([]byte, 128)} {
		f := put(t, newTable(), b)
		for _, ahead := range []int{0, 1, 200} {
			image := append(bytes.Repeat([]byte{9}, ahead), f...)
			for end := ahead; end < len(image); end++ {
				// The rest of the frame stands in the spare room, which is not looked at.
				isNone(t, "cut off", image[:end], ahead)
				isNone(t, "cut off, no room", slices.Clip(image[:end]), ahead)
			}
			takes(t, "just whole", newTable(), image, ahead, b, len(image))
			takes(t, "more behind", newTable(), append(image, 7), ahead, b, len(image))
		}
	}
}

// P4.2: heads.

func TestThirdByteThatIsWrong(t *testing.T) {
	for _, b := range [][]byte{nil, []byte("a"), []byte("ab"), []byte("aaaaa"), rising(127), rising(128), make([]byte, 128)} {
		f := put(t, newTable(), b)
		for c := 0; c < 256; c++ {
			wrong := slices.Clone(f)
			wrong[2] = byte(c)
			if byte(c) != f[2] {
				isNone(t, "third byte", append(wrong, f...), 0)
			}
		}
	}
}

// TestAllNumbers lays enough bytes behind each of the 65536 heads: 0, and 1 to 128 stored and not, are all that there are.
func TestAllNumbers(t *testing.T) {
	rest := make([]byte, 40000)
	for number := 0; number < 65536; number++ {
		image := rest[:7+number%32768+1]
		copy(image, build(0, number, nil))
		n := number % 32768
		switch {
		case number == 0:
			takes(t, "a hole", newTable(), image, 0, nil, 3)
		case 1 <= n && n <= 128:
			skips(t, "a number", image, 0, 7+n)
		default:
			isNone(t, "no number", image, 0)
		}
	}
}

func TestNumbersAbove128(t *testing.T) {
	for _, n := range []int{129, 130, 255, 256, 257, 384, 4096, 32767} {
		payload := mixed(uint32(n), n, 256)
		isNone(t, "stored", storedFrame(payload), 0)
		isNone(t, "stored, more behind", append(storedFrame(payload), payload...), 0)
		tokens := bytes.Repeat([]byte{0, 'a'}, n)[:n]
		isNone(t, "not stored", packedFrame(tokens), 0)
	}
	// A payload with more bytes than it stands for is one, up to 128.
	tokens := bytes.Repeat([]byte{0, 'a'}, 64)
	takes(t, "128 bytes, not stored", newTable(), packedFrame(tokens), 0, bytes.Repeat([]byte("a"), 64), 135)
	takes(t, "128 bytes, stored", newTable(), storedFrame(tokens), 0, tokens, 135)
}

func TestStoredFrameWithoutBytes(t *testing.T) {
	for _, behind := range []int{0, 1, 4, 8, 200} {
		isNone(t, "stored, no bytes", append([]byte{0, 128, 127}, make([]byte, behind)...), 0)
	}
}

func TestHoleHasNoSum(t *testing.T) {
	for _, behind := range [][]byte{nil, {0}, {1, 2, 3, 4}, {255, 255, 255, 255, 255}} {
		for _, table := range []*crc.Table{newTable(), strange(), nil} {
			takes(t, "a hole", table, append([]byte{0, 0, 255}, behind...), 0, nil, 3)
		}
	}
}

// P4.2: sums and payloads.

func TestSumThatIsWrong(t *testing.T) {
	for _, b := range [][]byte{[]byte("a"), []byte("aaaaa"), rising(128), make([]byte, 128)} {
		f := put(t, newTable(), b)
		for i := 3; i < 7; i++ {
			for by := 1; by < 256; by++ {
				wrong := slices.Clone(f)
				wrong[i] ^= byte(by)
				takesNot(t, "a sum", newTable(), wrong, 0)
				skips(t, "a sum", wrong, 0, len(f))
			}
		}
		turned := slices.Clone(f)
		slices.Reverse(turned[3:7])
		takesNot(t, "a sum with its highest byte first", newTable(), turned, 0)
		other := build(strange().Sum(f[7:]), int(f[0])+256*int(f[1]), f[7:])
		takesNot(t, "another table's sum", newTable(), other, 0)
		takes(t, "another table's sum, by that table", strange(), other, 0, b, len(f))
		takesNot(t, "New's sum, by another table", strange(), f, 0)
	}
}

func TestSumIsOfThePayload(t *testing.T) {
	plain := make([]byte, 128)
	packed, _ := lz.Pack(plain)
	f := build(crc32.ChecksumIEEE(plain), len(packed), packed)
	takesNot(t, "the sum of what it holds", newTable(), f, 0)
	skips(t, "the sum of what it holds", f, 0, len(f))
}

func TestPayloads(t *testing.T) {
	for _, x := range []struct {
		why, payload string
		want         string // none: it is no payload
	}{
		{"a run that is cut off", "\x01a", ""},
		{"a run without bytes", "\x00", ""},
		{"a long run that is cut off", "\x7f" + string(rising(127)), ""},
		{"a copy that is cut off", "\x00a\x80", ""},
		{"a copy alone, cut off", "\xff", ""},
		{"a copy of nothing", "\x80\x00", ""},
		{"a copy from ahead of the first byte", "\x00a\x80\x01", ""},
		{"tokens, and a byte more", "\x00ab", ""},
		{"125 bytes and a copy of 3", "\x00a\xf9\x00\x80\x00", strings.Repeat("a", 128)},
		{"126 bytes and a copy of 3", "\x00a\xfa\x00\x80\x00", ""},
		{"128 bytes by a copy", "\x00a\xfc\x00", strings.Repeat("a", 128)},
		{"129 bytes by a copy", "\x00a\xfd\x00", ""},
		{"131 bytes by a copy", "\x00a\xff\x00", ""},
		{"128 bytes, and one more", "\x00a\xfc\x00\x00b", ""},
		{"128 bytes, and tokens that are none", "\x00a\xfc\x00\x05b", ""},
		{"a byte, packed to two", "\x00a", "a"},
		{"not as Pack packs", "\x00a\x00a\x00a\x00a\x00a", "aaaaa"},
		{"a copy from farther than need be", "\x02aaa\x80\x02", "aaaaaa"},
	} {
		f := packedFrame([]byte(x.payload))
		skips(t, x.why, f, 0, len(f))
		if x.want == "" {
			takesNot(t, x.why, newTable(), f, 0)
		} else {
			takes(t, x.why, newTable(), f, 0, []byte(x.want), len(f))
		}
		takes(t, x.why+", stored", newTable(), storedFrame([]byte(x.payload)), 0, []byte(x.payload), len(f))
	}
}

func TestStoredThoughItPacks(t *testing.T) {
	b := make([]byte, 128)
	takes(t, "noughts, stored", newTable(), storedFrame(b), 0, b, 135)
}

// TestNoPayloadIsOfNone goes through all payloads of one and of two bytes: none of them holds nothing.
func TestNoPayloadIsOfNone(t *testing.T) {
	table := newTable()
	for x := 0; x < 256+65536; x++ {
		payload := []byte{byte(x)}
		if x >= 256 {
			payload = []byte{byte(x), byte((x - 256) >> 8)}
		}
		b, next, e := frame.Take(table, packedFrame(payload), 0)
		want, wantNext, wantE := slowTake(table, packedFrame(payload), 0)
		if !bytes.Equal(b, want) || next != wantNext || e != wantE || e == api.OK && len(b) == 0 {
			t.Fatalf("% x: % x, %d, %d", payload, b, next, e)
		}
	}
}

// TestAnyImage holds both calls against P4.2 word by word, at each place of images of frames, of which some bytes are turned.
func TestAnyImage(t *testing.T) {
	told := map[api.Errno]int{}
	for seed := uint32(0); seed < 300; seed++ {
		table := newTable()
		if seed%3 == 2 {
			table = strange()
		}
		var image []byte
		for i, c := range mixed(seed, 6, 256) {
			b := mixed(seed*7+uint32(i), int(c)%129, 1+int(c)%5)
			image = append(image, put(t, table, b)...)
		}
		for i, c := range mixed(seed+1000, int(seed%4), 256) {
			image[(i*97+int(c)*3)%len(image)] ^= c
		}
		for at := -1; at < len(image)+2; at++ {
			b, next, e := frame.Take(table, image, at)
			want, wantNext, wantE := slowTake(table, image, at)
			if !bytes.Equal(b, want) || next != wantNext || e != wantE {
				t.Fatalf("seed %d at %d: Take: % x, %d, %d, wanted % x, %d, %d", seed, at, b, next, e, want, wantNext, wantE)
			}
			told[e]++
			next, e = frame.Skip(image, at)
			if _, wantNext, wantE = slowTake(nil, image, at); next != wantNext || e != wantE {
				t.Fatalf("seed %d at %d: Skip: %d, %d, wanted %d, %d", seed, at, next, e, wantNext, wantE)
			}
		}
	}
	if told[api.OK] < 1000 || told[api.ErrCorrupt] < 1000 {
		t.Errorf("too few of one kind: %d", told)
	}
}

// P4.3.

func TestTakeOfPut(t *testing.T) {
	for _, table := range []*crc.Table{newTable(), strange(), {}} {
		for i, b := range rows() {
			f := put(t, table, b)
			takes(t, "alone", table, f, 0, b, len(f))
			ahead := mixed(uint32(i), i%300, 256)
			image := slices.Concat(ahead, f, ahead)
			takes(t, "within", table, image, len(ahead), b, len(ahead)+len(f))
		}
	}
}

func TestTakeOfPutFarBehind(t *testing.T) {
	f := put(t, newTable(), rising(128))
	image := append(make([]byte, 1<<20), f...)
	takes(t, "far behind", newTable(), image, 1<<20, rising(128), len(image))
}

func TestEachByteTurned(t *testing.T) {
	table := newTable()
	some := [][]byte{nil, []byte("a"), []byte("ab"), []byte("aaaa"), []byte("aaaaa"), []byte("abcabcabcd"), rising(127), rising(128), make([]byte, 127), make([]byte, 128), mixed(4, 128, 3), bytes.Repeat([]byte{255}, 128)}
	for _, b := range some {
		f := put(t, table, b)
		// Enough stands behind it, for a head that tells of more bytes.
		for _, ahead := range [][]byte{nil, []byte("ahead")} {
			image := slices.Concat(ahead, f, rising(256))
			for i := range f {
				was := image[len(ahead)+i]
				for by := 1; by < 256; by++ {
					image[len(ahead)+i] = was ^ byte(by)
					takesNot(t, "a byte turned", table, image, len(ahead))
					if i < 3 {
						skipsNot(t, "a byte of the head turned", image, len(ahead))
					} else {
						skips(t, "a byte behind the head turned", image, len(ahead), len(ahead)+len(f))
					}
				}
				image[len(ahead)+i] = was
			}
		}
	}
}

// R7.

func TestWhatIsHandedInStays(t *testing.T) {
	table, same := newTable(), crc.New()
	for _, b := range rows() {
		room := append(slices.Clone(b), bytes.Repeat([]byte{77}, 200)...)
		f := put(t, table, room[:len(b)])
		if !bytes.Equal(room[:len(b)], b) || !bytes.Equal(room[len(b):], bytes.Repeat([]byte{77}, 200)) {
			t.Fatal("Put changed its bytes")
		}
		image := append(slices.Clone(f), bytes.Repeat([]byte{77}, 200)...)
		was := slices.Clone(image)
		if _, _, e := frame.Take(table, image[:len(f)], 0); e != api.OK {
			t.Fatal(e)
		}
		if _, e := frame.Skip(image[:len(f)], 0); e != api.OK || !bytes.Equal(image, was) {
			t.Fatal("the image changed")
		}
	}
	if *table != same {
		t.Error("the table changed")
	}
}

// spoil turns all bytes of a list, those of its spare room too.
func spoil(b []byte) {
	for i := range b[:cap(b)] {
		b[:cap(b)][i] ^= 255
	}
}

func TestAnswersAreTheCallersOwn(t *testing.T) {
	table := newTable()
	for _, b := range rows() {
		in := slices.Clone(b)
		f := put(t, table, in)
		was := slices.Clone(f)
		spoil(in)
		if !bytes.Equal(f, was) {
			t.Fatal("Put's answer is its argument's")
		}
		taken, _, _ := frame.Take(table, f, 0)
		spoil(taken)
		if !bytes.Equal(f, was) {
			t.Fatal("Take's answer is the image's")
		}
		spoil(f)
		if again := put(t, table, b); !bytes.Equal(again, was) {
			t.Fatal("Put's answer is kept")
		}
	}
}
