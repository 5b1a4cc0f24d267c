package super_test

import (
	"bytes"
	"hash/crc32"
	"math"
	"slices"
	"testing"

	"lamella/api"
	"lamella/crc"
	"lamella/super"
)

func newTable() *crc.Table {
	t := crc.New()
	return &t
}

// strange is a table of no rule.
func strange() *crc.Table {
	var t crc.Table
	for i := range t {
		t[i] = uint32(i)*2654435761 ^ 0x9e3779b9
	}
	return &t
}

func tables() []*crc.Table { return []*crc.Table{newTable(), strange(), {}} }

// mixed is n bytes, the same ones in each run of the tests.
func mixed(seed uint32, n int) []byte {
	b := make([]byte, n)
	for i := range b {
		seed = seed*1664525 + 1013904223
		b[i] = byte(seed >> 16)
	}
	return b
}

// ordinary has room between its places, and no two numbers that are the same.
func ordinary() api.Super {
	return api.Super{Size: 70000, Inodes: 258, InodeAt: 1000, DirAt: 2003, FragAt: 3007, IDAt: 4011, XattrAt: 66000, IDs: 517, Frags: 775, Root: 0x0a0b0c0d}
}

// least has nothing but a superblock, greatest the most of everything.
func least() api.Super {
	return api.Super{Size: 64, Inodes: 1, InodeAt: 64, DirAt: 64, FragAt: 64, IDAt: 64, XattrAt: 64, IDs: 1}
}

func greatest() api.Super {
	const end = 1 << 20
	return api.Super{Size: end, Inodes: 1024, InodeAt: end, DirAt: end, FragAt: end, IDAt: end, XattrAt: end, IDs: 2048, Frags: 1024, Root: 1<<32 - 1}
}

// field is one of a superblock's numbers.
type field struct {
	name string
	of   func(s *api.Super) *int
}

// places are the numbers that do not fall, in their order; counts are the others.
func places() []field {
	return []field{
		{"InodeAt", func(s *api.Super) *int { return &s.InodeAt }},
		{"DirAt", func(s *api.Super) *int { return &s.DirAt }},
		{"FragAt", func(s *api.Super) *int { return &s.FragAt }},
		{"IDAt", func(s *api.Super) *int { return &s.IDAt }},
		{"XattrAt", func(s *api.Super) *int { return &s.XattrAt }},
		{"Size", func(s *api.Super) *int { return &s.Size }},
	}
}

func counts() []field {
	return []field{
		{"Inodes", func(s *api.Super) *int { return &s.Inodes }},
		{"IDs", func(s *api.Super) *int { return &s.IDs }},
		{"Frags", func(s *api.Super) *int { return &s.Frags }},
		{"Root", func(s *api.Super) *int { return &s.Root }},
	}
}

func (f field) set(s api.Super, n int) api.Super {
	*f.of(&s) = n
	return s
}

// slowMay is P8.1 word by word.
func slowMay(s api.Super) bool {
	ahead := 64
	for _, f := range places() {
		n := *f.of(&s)
		if n < ahead {
			return false
		}
		ahead = n
	}
	return s.Size <= 1048576 && s.Inodes >= 1 && s.Inodes <= 1024 && s.IDs >= 1 && s.IDs <= 2048 &&
		s.Frags >= 0 && s.Frags <= 1024 && s.Root >= 0 && s.Root <= 4294967295
}

// summed are bytes with their sum behind them, and noughts up to 64.
func summed(t *crc.Table, b []byte) []byte {
	s := t.Sum(b)
	b = append(slices.Clone(b), byte(s), byte(s>>8), byte(s>>16), byte(s>>24))
	return append(b, make([]byte, 64-len(b))...)
}

// written are the letters and numbers of any superblock; of a number that does not fit, the bytes that do.
func written(s api.Super) []byte {
	b := []byte{'L', 'M', 'L', 'A'}
	for _, n := range []int{s.Size, s.InodeAt, s.DirAt, s.FragAt, s.IDAt, s.XattrAt, s.Root} {
		b = append(b, byte(n), byte(n>>8), byte(n>>16), byte(n>>24))
	}
	for _, n := range []int{s.Inodes, s.IDs, s.Frags} {
		b = append(b, byte(n), byte(n>>8))
	}
	return b
}

func laid(t *crc.Table, s api.Super) []byte { return summed(t, written(s)) }

// imageOf is a block and, up to so many bytes, others.
func imageOf(block []byte, n int) []byte {
	image := mixed(uint32(n), max(n, len(block)))
	copy(image, block)
	return image[:n]
}

// slowTake is P8.2 word by word.
func slowTake(t *crc.Table, image []byte) (api.Super, api.Errno) {
	number := func(at, width int) int {
		n := 0
		for i := width - 1; i >= 0; i-- {
			n = n*256 + int(image[at+i])
		}
		return n
	}
	if len(image) < 64 {
		return api.Super{}, api.ErrCorrupt
	}
	s := api.Super{
		Size: number(4, 4), InodeAt: number(8, 4), DirAt: number(12, 4), FragAt: number(16, 4), IDAt: number(20, 4),
		XattrAt: number(24, 4), Root: number(28, 4), Inodes: number(32, 2), IDs: number(34, 2), Frags: number(36, 2),
	}
	if string(image[:4]) != "LMLA" || number(38, 4) != int(t.Sum(image[:38])) || !slowMay(s) || s.Size != len(image) {
		return api.Super{}, api.ErrCorrupt
	}
	if slices.ContainsFunc(image[42:64], func(c byte) bool { return c != 0 }) {
		return api.Super{}, api.ErrCorrupt
	}
	return s, api.OK
}

// mayBe holds all three calls of a superblock against whether it may be.
func mayBe(t *testing.T, why string, s api.Super, want bool) {
	t.Helper()
	if super.May(s) != want || slowMay(s) != want {
		t.Errorf("%s: May is %v, word by word %v, wanted %v: %+v", why, super.May(s), slowMay(s), want, s)
	}
	b, e := super.Put(newTable(), s)
	if want && (!bytes.Equal(b, laid(newTable(), s)) || e != api.OK) {
		t.Errorf("%s: Put: % x, %d, wanted % x", why, b, e, laid(newTable(), s))
	}
	if !want && (b != nil || e != api.ErrArg) {
		t.Errorf("%s: Put: % x, %d, wanted ErrArg", why, b, e)
	}
	if s.Size < 0 || s.Size > 1<<20+1 {
		return // there is no such image here
	}
	if image := imageOf(laid(newTable(), s), s.Size); want {
		takes(t, why, newTable(), image, s)
	} else if _, e := slowTake(newTable(), image); e != api.OK { // what does not fit its bytes is there as another number
		takesNot(t, why, newTable(), image)
	}
}

func takes(t *testing.T, why string, table *crc.Table, image []byte, want api.Super) {
	t.Helper()
	if s, e := super.Take(table, image); s != want || e != api.OK {
		t.Errorf("%s: Take of %d bytes: %+v, %d, wanted %+v", why, len(image), s, e, want)
	}
}

func takesNot(t *testing.T, why string, table *crc.Table, image []byte) {
	t.Helper()
	if s, e := super.Take(table, image); s != (api.Super{}) || e != api.ErrCorrupt {
		t.Errorf("%s: Take of %d bytes: %+v, %d, wanted ErrCorrupt", why, len(image), s, e)
	}
}

// supers are some that may be: the numbers of a few, mixed.
func supers() []api.Super {
	all := []api.Super{least(), ordinary(), greatest()}
	for seed := range uint32(200) {
		b := mixed(seed, 24)
		at := 64
		s := api.Super{Inodes: 1 + int(b[0])*4, IDs: 1 + int(b[1])*8, Frags: int(b[2]) * 4}
		for i, f := range places() {
			at += int(b[3+i]) * int(b[9+i]) % 300
			*f.of(&s) = at
		}
		for _, c := range b[15:19] {
			s.Root = s.Root*256 + int(c)
		}
		all = append(all, s)
	}
	return all
}

func TestExamplesOfTheChapter(t *testing.T) {
	for _, table := range tables() {
		if b, e := super.Put(table, api.Super{}); b != nil || e != api.ErrArg {
			t.Errorf("Put of zero: % x, %d", b, e)
		}
		takesNot(t, "none", table, nil)
		takesNot(t, "none", table, []byte{})
	}
}

// P8.1.

func TestMayOfOrdinaryOnes(t *testing.T) {
	for _, s := range supers() {
		mayBe(t, "that may be", s, true)
	}
	mayBe(t, "zero", api.Super{}, false)
}

func TestMayOfEachPlaceAndTheOneAhead(t *testing.T) {
	ahead := field{"64", func(*api.Super) *int { n := 64; return &n }}
	for _, f := range places() {
		s := ordinary()
		n := *ahead.of(&s)
		mayBe(t, f.name+" the same as "+ahead.name, f.set(s, n), true)
		mayBe(t, f.name+" one above "+ahead.name, f.set(s, n+1), true)
		mayBe(t, f.name+" one below "+ahead.name, f.set(s, n-1), false)
		mayBe(t, f.name+" 0", f.set(s, 0), false)
		ahead = f
	}
	for i, f := range places()[:5] {
		s, behind := ordinary(), places()[i+1]
		n := *behind.of(&s)
		mayBe(t, f.name+" one below "+behind.name, f.set(s, n-1), true)
		mayBe(t, f.name+" the same as "+behind.name, f.set(s, n), true)
		mayBe(t, f.name+" one above "+behind.name, f.set(s, n+1), false)
	}
}

// TestMayOfAllPlacesTogether takes each of four places for each of the six: 4096 rows, of which 28 rise from 64 to 66.
func TestMayOfAllPlacesTogether(t *testing.T) {
	good := 0
	for row := range 4096 {
		s := least()
		for _, f := range places() {
			*f.of(&s) = 63 + row%4
			row /= 4
		}
		mayBe(t, "places", s, slowMay(s))
		if super.May(s) {
			good++
		}
	}
	if good != 28 {
		t.Errorf("%d rows may be", good)
	}
}

func TestMayTable(t *testing.T) {
	const highest = math.MaxInt
	edges := map[string][]struct {
		n    int
		good bool
	}{
		"InodeAt": {{63, false}, {64, true}, {65, true}, {-64, false}, {math.MinInt, false}, {highest, false}},
		"DirAt":   {{63, false}, {math.MinInt, false}, {highest, false}},
		"FragAt":  {{63, false}, {math.MinInt, false}, {highest, false}},
		"IDAt":    {{63, false}, {math.MinInt, false}, {highest, false}},
		"XattrAt": {{63, false}, {math.MinInt, false}, {highest, false}},
		"Size":    {{1<<20 - 1, true}, {1 << 20, true}, {1<<20 + 1, false}, {1 << 32, false}, {70000 + 1<<32, false}, {math.MinInt, false}, {highest, false}},
		"Inodes":  {{-1, false}, {0, false}, {1, true}, {2, true}, {1023, true}, {1024, true}, {1025, false}, {65536 + 1, false}, {math.MinInt, false}, {highest, false}},
		"IDs":     {{-1, false}, {0, false}, {1, true}, {2, true}, {1024, true}, {1025, true}, {2047, true}, {2048, true}, {2049, false}, {65536 + 1, false}, {math.MinInt, false}, {highest, false}},
		"Frags":   {{-1, false}, {0, true}, {1, true}, {1023, true}, {1024, true}, {1025, false}, {65536, false}, {math.MinInt, false}, {highest, false}},
		"Root":    {{-1, false}, {0, true}, {1, true}, {1<<31 - 1, true}, {1 << 31, true}, {1<<32 - 2, true}, {1<<32 - 1, true}, {1 << 32, false}, {1<<32 + 1, false}, {math.MinInt, false}, {highest, false}},
	}
	for _, f := range append(places(), counts()...) {
		if len(edges[f.name]) == 0 {
			t.Errorf("%s has no edges", f.name)
		}
		for _, x := range edges[f.name] {
			mayBe(t, f.name, f.set(ordinary(), x.n), x.good)
		}
	}
}

// TestMayOfTheGreatestImage: the places may all be at its end, none behind it.
func TestMayOfTheGreatestImage(t *testing.T) {
	mayBe(t, "all at the end", greatest(), true)
	for _, f := range places()[:5] {
		mayBe(t, f.name+" behind the end", f.set(greatest(), 1<<20+1), false)
	}
	above := greatest()
	for _, f := range places() {
		*f.of(&above) = 1<<20 + 1
	}
	mayBe(t, "all one above", above, false)
	for _, n := range []int{math.MinInt, math.MaxInt} {
		all := ordinary()
		for _, f := range places() {
			*f.of(&all) = n
		}
		mayBe(t, "all places the least or the greatest int", all, false)
	}
}

// P8.2: Put.

func TestPutTable(t *testing.T) {
	for _, x := range []struct {
		why  string
		s    api.Super
		want string // without the sum and the noughts
	}{
		{"least", least(), "LMLA" +
			"\x40\x00\x00\x00" + "\x40\x00\x00\x00" + "\x40\x00\x00\x00" + "\x40\x00\x00\x00" + "\x40\x00\x00\x00" + "\x40\x00\x00\x00" +
			"\x00\x00\x00\x00" + "\x01\x00" + "\x01\x00" + "\x00\x00"},
		{"ordinary", ordinary(), "LMLA" +
			"\x70\x11\x01\x00" + "\xe8\x03\x00\x00" + "\xd3\x07\x00\x00" + "\xbf\x0b\x00\x00" + "\xab\x0f\x00\x00" + "\xd0\x01\x01\x00" +
			"\x0d\x0c\x0b\x0a" + "\x02\x01" + "\x05\x02" + "\x07\x03"},
		{"greatest", greatest(), "LMLA" +
			"\x00\x00\x10\x00" + "\x00\x00\x10\x00" + "\x00\x00\x10\x00" + "\x00\x00\x10\x00" + "\x00\x00\x10\x00" + "\x00\x00\x10\x00" +
			"\xff\xff\xff\xff" + "\x00\x04" + "\x00\x08" + "\x00\x04"},
	} {
		sum := crc32.ChecksumIEEE([]byte(x.want))
		want := x.want + string([]byte{byte(sum), byte(sum >> 8), byte(sum >> 16), byte(sum >> 24)}) + string(make([]byte, 22))
		if b, e := super.Put(newTable(), x.s); string(b) != want || e != api.OK {
			t.Errorf("%s: % x, %d, wanted % x", x.why, b, e, want)
		}
	}
}

// TestSumIsByTheTable: whatever table is handed in, it is the one that sums.
func TestSumIsByTheTable(t *testing.T) {
	for _, table := range tables() {
		for _, s := range supers() {
			b, e := super.Put(table, s)
			if !bytes.Equal(b, laid(table, s)) || e != api.OK {
				t.Fatalf("Put: % x, %d, wanted % x", b, e, laid(table, s))
			}
			takes(t, "by its table", table, imageOf(b, s.Size), s)
		}
		s := ordinary()
		for _, other := range tables() {
			if *other != *table {
				takesNot(t, "by another table", other, imageOf(laid(table, s), s.Size))
			}
		}
	}
}

// P8.2: Take.

func TestTakeOfShortOnes(t *testing.T) {
	for _, s := range []api.Super{least(), ordinary()} {
		b := laid(newTable(), s)
		for n := range 64 {
			takesNot(t, "fewer than 64", newTable(), b[:n])
			takesNot(t, "fewer than 64, with room", newTable(), append(make([]byte, 0, 100), b[:n]...))
		}
	}
	for n := range 64 { // of a size that is its own, too
		s := least()
		s.Size = n
		takesNot(t, "that is as short as its Size", newTable(), laid(newTable(), s)[:n])
	}
	takes(t, "64", newTable(), laid(newTable(), least()), least())
}

func TestTakeOfOtherLengths(t *testing.T) {
	for _, size := range []int{64, 65, 66, 127, 128, 255, 256, 257, 1000, 65535, 65536, 65537, 1<<20 - 1, 1 << 20} {
		s := least()
		s.Size = size
		b := laid(newTable(), s)
		takes(t, "its Size", newTable(), imageOf(b, size), s)
		takesNot(t, "one shorter", newTable(), imageOf(b, size-1))
		takesNot(t, "one longer", newTable(), imageOf(b, size+1))
		takesNot(t, "twice as long", newTable(), imageOf(b, 2*size))
		if size > 64 {
			takesNot(t, "the block alone", newTable(), b)
		}
	}
}

// TestTakeOfWhatIsTooLong: an image above the bound is refused though it has the length that it tells.
func TestTakeOfWhatIsTooLong(t *testing.T) {
	for _, size := range []int{1<<20 + 1, 1<<20 + 64, 1 << 21} {
		s := ordinary()
		s.Size = size
		takesNot(t, "above the bound", newTable(), imageOf(laid(newTable(), s), size))
	}
}

// TestTakeLooksAtNothingBehind the superblock.
func TestTakeLooksAtNothingBehind(t *testing.T) {
	s := least()
	s.Size = 200
	image := imageOf(laid(newTable(), s), s.Size)
	for i := 64; i < len(image); i++ {
		image[i] ^= 255
		takes(t, "turned behind the superblock", newTable(), image, s)
	}
}

func TestTakeOfOtherNoughts(t *testing.T) {
	for _, s := range []api.Super{least(), ordinary()} {
		image := imageOf(laid(newTable(), s), s.Size)
		for i := 42; i < 64; i++ {
			for c := 1; c < 256; c++ {
				image[i] = byte(c)
				takesNot(t, "another byte than a nought", newTable(), image)
			}
			image[i] = 0
		}
		takes(t, "noughts", newTable(), image, s)
	}
}

func TestTakeOfOtherLettersWithTheirSum(t *testing.T) {
	for _, letters := range []string{"lmla", "LMLa", "LMLB", "MLLA", "ALML", "LML\x00", "\x00\x00\x00\x00", "LMLM", "    "} {
		b := append([]byte(letters), written(ordinary())[4:]...)
		takesNot(t, letters, newTable(), imageOf(summed(newTable(), b), ordinary().Size))
	}
	for i := range 4 {
		for c := range 256 {
			b := written(ordinary())
			if b[i] != byte(c) {
				b[i] = byte(c)
				takesNot(t, "other letters", newTable(), imageOf(summed(newTable(), b), ordinary().Size))
			}
		}
	}
}

// TestTakeOfOtherSums: of more or fewer bytes, with its highest byte first, turned, none.
func TestTakeOfOtherSums(t *testing.T) {
	s := ordinary()
	right := laid(newTable(), s)
	put := func(sum uint32) []byte {
		b := slices.Clone(right)
		b[38], b[39], b[40], b[41] = byte(sum), byte(sum>>8), byte(sum>>16), byte(sum>>24)
		return imageOf(b, s.Size)
	}
	sum := crc32.ChecksumIEEE(right[:38])
	takes(t, "the sum", newTable(), put(sum), s)
	swapped := sum<<24 | sum<<8&0xff0000 | sum>>8&0xff00 | sum>>24
	for why, other := range map[string]uint32{
		"none": 0, "all bits": math.MaxUint32, "turned": ^sum, "one above": sum + 1, "highest byte first": swapped,
		"without the letters": crc32.ChecksumIEEE(right[4:38]), "one byte fewer": crc32.ChecksumIEEE(right[:37]),
		"with noughts": crc32.ChecksumIEEE(append(slices.Clone(right[:38]), make([]byte, 26)...)),
	} {
		takesNot(t, why, newTable(), put(other))
	}
}

// TestTakeOfNumbersWithTheirSum turns each byte of letters and numbers, with the sum right again, in an image as long as it was and in one as long as it tells.
func TestTakeOfNumbersWithTheirSum(t *testing.T) {
	taken, refused := 0, 0
	table, room := newTable(), mixed(1, 1<<20+1)
	for _, s := range []api.Super{least(), ordinary()} {
		for i := range 38 {
			for c := range 256 {
				b := written(s)
				b[i] = byte(c)
				copy(room, summed(table, b))
				size := int(b[4]) + int(b[5])<<8 + int(b[6])<<16 + int(b[7])<<24
				for _, n := range []int{s.Size, min(size, 1<<20+1)} {
					want, e := slowTake(table, room[:n])
					if e == api.OK {
						taken++
						takes(t, "turned and summed", table, room[:n], want)
					} else {
						refused++
						takesNot(t, "turned and summed", table, room[:n])
					}
				}
			}
		}
	}
	if taken < 1000 || refused < 1000 {
		t.Errorf("%d taken, %d refused", taken, refused)
	}
}

// TestTakeOfHighestBytesFirst: numbers that are right only if they are read from the other end.
func TestTakeOfHighestBytesFirst(t *testing.T) {
	b := written(ordinary())
	for at := 4; at < 32; at += 4 {
		slices.Reverse(b[at : at+4])
	}
	for at := 32; at < 38; at += 2 {
		slices.Reverse(b[at : at+2])
	}
	takesNot(t, "highest bytes first", newTable(), imageOf(summed(newTable(), b), ordinary().Size))
}

func TestTakeOfAnyBytes(t *testing.T) {
	for seed := range uint32(300) {
		image := mixed(seed, int(seed))
		takesNot(t, "any bytes", newTable(), image)
		if len(image) >= 38 {
			takesNot(t, "any bytes, summed", newTable(), imageOf(summed(newTable(), image[:38]), max(64, len(image))))
		}
		takesNot(t, "noughts", newTable(), make([]byte, seed))
		takesNot(t, "noughts, by noughts", &crc.Table{}, make([]byte, seed))
	}
}

// P8.3.

func TestTakeOfPut(t *testing.T) {
	for _, table := range tables() {
		for _, s := range supers() {
			b, e := super.Put(table, s)
			if len(b) != 64 || e != api.OK {
				t.Fatalf("Put: % x, %d", b, e)
			}
			takes(t, "what was put", table, imageOf(b, s.Size), s)
			takes(t, "what was put, ahead of noughts", table, append(b, make([]byte, s.Size-64)...), s)
		}
	}
}

func TestOneByteTurned(t *testing.T) {
	turned := supers()[:12]
	short := least()
	short.Size = 0x0140 // with a byte turned it may be 64, or 256 and more
	for _, s := range append(turned, short) {
		table := newTable()
		b, _ := super.Put(table, s)
		image := imageOf(b, s.Size)
		for i := range 42 {
			for turn := 1; turn < 256; turn++ {
				image[i] ^= byte(turn)
				takesNot(t, "a byte turned", table, image)
				image[i] ^= byte(turn)
			}
		}
		takes(t, "no byte turned", table, image, s)
	}
}

// TestSizeTurned: the length that a turned Size tells does not help.
func TestSizeTurned(t *testing.T) {
	b, _ := super.Put(newTable(), least())
	for i := 4; i < 7; i++ {
		for c := 1; c < 16; c++ {
			turned := slices.Clone(b)
			turned[i] ^= byte(c)
			size := int(turned[4]) + int(turned[5])<<8 + int(turned[6])<<16
			takesNot(t, "Size turned", newTable(), imageOf(turned, size))
		}
	}
}

// R6, R7.

func TestWhatIsHandedInStays(t *testing.T) {
	for _, size := range []int{64, 200} {
		s := least()
		s.Size = size
		for _, image := range [][]byte{imageOf(laid(newTable(), s), size), mixed(3, size), mixed(4, 20)} {
			room := append(append(mixed(1, 16), image...), mixed(2, 100)...)
			before := slices.Clone(room)
			handed := room[16 : 16+len(image) : len(room)]
			table := newTable()
			first, e := super.Take(table, handed)
			if again, e2 := super.Take(table, handed); again != first || e2 != e {
				t.Errorf("another answer the second time: %+v, %d", again, e2)
			}
			if _, e := super.Put(table, s); e != api.OK {
				t.Error(e)
			}
			if !bytes.Equal(room, before) || *table != crc.New() {
				t.Error("bytes or table changed")
			}
		}
	}
}

func TestWhatIsAnsweredIsTheCallers(t *testing.T) {
	s := ordinary()
	want := laid(newTable(), s)
	first, _ := super.Put(newTable(), s)
	image := imageOf(first, s.Size)
	clear(first[:cap(first)])
	second, _ := super.Put(newTable(), s)
	if !bytes.Equal(second, want) {
		t.Errorf("Put behind a change of its answer: % x, wanted % x", second, want)
	}
	third, _ := super.Put(newTable(), least())
	if !bytes.Equal(second, want) || !bytes.Equal(third, laid(newTable(), least())) {
		t.Errorf("two answers: % x, % x", second, third)
	}
	taken, _ := super.Take(newTable(), image)
	clear(image)
	if taken != s {
		t.Errorf("Take's answer behind a change of the image: %+v", taken)
	}
	takesNot(t, "an image that was cleared", newTable(), image)
}

// TestTableIsShared: the one that is handed in is asked, as it is at the call.
func TestTableIsShared(t *testing.T) {
	table, s := newTable(), least()
	image := laid(table, s)
	takes(t, "ahead of the change", table, image, s)
	*table = *strange()
	takesNot(t, "behind the change", table, image)
	takes(t, "summed anew", table, laid(table, s), s)
}
