package dirtab_test

import (
	"bytes"
	"math"
	"slices"
	"strings"
	"testing"

	"lamella/api"
	"lamella/dirtab"
)

// mixed is n bytes, the same ones in each run of the tests.
func mixed(seed uint32, n int) []byte {
	b := make([]byte, n)
	for i := range b {
		seed = seed*1664525 + 1013904223
		b[i] = byte(seed >> 16)
	}
	return b
}

// named are entries of these names, of all kinds, with refs that differ.
func named(names ...string) []api.Entry {
	var l []api.Entry
	for i, s := range names {
		l = append(l, api.Entry{Name: s, Kind: 1 + i%3, Ref: (i*0x01020305 + 0x0708090a) & math.MaxUint32})
	}
	return l
}

// longest are names of the greatest length that rise; tooLong has one letter more.
func longest() []string {
	return []string{strings.Repeat("a", 255), strings.Repeat("a", 254) + "b", strings.Repeat("\xff", 255)}
}

func tooLong() string { return strings.Repeat("a", 256) }

// many are so many entries.
func many(n int) []api.Entry {
	var names []string
	for i := range n {
		names = append(names, "n"+string([]byte{byte('0' + i/1000), byte('0' + i/100%10), byte('0' + i/10%10), byte('0' + i%10)}))
	}
	return named(names...)
}

// lists are some that may be.
func lists() [][]api.Entry {
	all := [][]api.Entry{
		nil,
		{},
		{{Name: "a", Kind: api.File, Ref: 5}},
		{{Name: "a", Kind: api.Dir}},
		{{Name: "x", Kind: api.Link, Ref: 1<<32 - 1}},
		named("a", "ab", "abc", "b"),
		named("A", "Z", "a", "z"),
		named("10", "9", "a b", "a.b", "a:b"),
		named("...", ".a", ".a.", ".ab", "~"),
		named(longest()...),
		named("\x01", "\x7f", "\x80", "\xc3", "\xc3\xa9", "\xed\xa0\x80", "\xfe\xff", "\xff", "\xff\xff"),
		named("\xe2\x82\xac", "\xf0\x9f\x98\x80"),
		many(1024),
	}
	for seed := range uint32(60) {
		all = append(all, anyList(seed))
	}
	return all
}

// anyList has names of any bytes that a name may have, short ones, so that many begin alike.
func anyList(seed uint32) []api.Entry {
	b := mixed(seed, 400)
	var names []string
	for i := 0; i+4 < len(b) && len(names) < int(seed%20); i += 5 {
		letters := []byte{b[i] % 3, b[i+1]%3 + 'a', b[i+2]}
		s := string(letters[:1+b[i+3]%3])
		if slowValid(s) {
			names = append(names, s)
		}
	}
	slices.Sort(names)
	return named(slices.Compact(names)...)
}

func slowValid(s string) bool {
	if len(s) > 255 || len(s) == 0 || s == "." || s == ".." {
		return false
	}
	for i := range len(s) {
		if s[i] == 0 || s[i] == '/' {
			return false
		}
	}
	return true
}

// slowMay is the chapter's list that may be, word by word.
func slowMay(l []api.Entry) bool {
	for i, x := range l {
		if !slowValid(x.Name) || x.Kind != 1 && x.Kind != 2 && x.Kind != 3 || x.Ref < 0 || x.Ref > 4294967295 {
			return false
		}
		if i > 0 && bytes.Compare([]byte(l[i-1].Name), []byte(x.Name)) >= 0 {
			return false
		}
	}
	return true
}

// laid are the bytes of any list; of a number that does not fit, and of a name's length, the bytes that do.
func laid(l []api.Entry) []byte {
	var b []byte
	for _, x := range l {
		b = append(b, byte(len(x.Name)))
		b = append(b, x.Name...)
		b = append(b, byte(x.Kind), byte(x.Ref), byte(x.Ref>>8), byte(x.Ref>>16), byte(x.Ref>>24))
	}
	return b
}

// slowTake is P10.1's Take word by word: there is no list but the one that b is read as.
func slowTake(b []byte) ([]api.Entry, api.Errno) {
	var l []api.Entry
	for at := 0; at < len(b); {
		n := int(b[at])
		if at+1+n+5 > len(b) {
			return nil, api.ErrCorrupt
		}
		rest := b[at+1+n:]
		l = append(l, api.Entry{
			Name: string(b[at+1 : at+1+n]), Kind: int(rest[0]),
			Ref: int(rest[1]) + 256*int(rest[2]) + 65536*int(rest[3]) + 16777216*int(rest[4]),
		})
		at += 1 + n + 5
	}
	if !slowMay(l) {
		return nil, api.ErrCorrupt
	}
	return l, api.OK
}

func puts(t *testing.T, why string, l []api.Entry) {
	t.Helper()
	if b, e := dirtab.Put(l); !bytes.Equal(b, laid(l)) || e != api.OK {
		t.Errorf("%s: Put of %+v: % x, %d, wanted % x", why, l, b, e, laid(l))
	}
}

func putsNot(t *testing.T, why string, l []api.Entry) {
	t.Helper()
	if b, e := dirtab.Put(l); b != nil || e != api.ErrArg {
		t.Errorf("%s: Put of %+v: % x, %d, wanted ErrArg", why, l, b, e)
	}
}

func takes(t *testing.T, why string, b []byte, want []api.Entry) {
	t.Helper()
	if l, e := dirtab.Take(b); !slices.Equal(l, want) || e != api.OK {
		t.Errorf("%s: Take of % x: %+v, %d, wanted %+v", why, b, l, e, want)
	}
}

func takesNot(t *testing.T, why string, b []byte) {
	t.Helper()
	if l, e := dirtab.Take(b); l != nil || e != api.ErrCorrupt {
		t.Errorf("%s: Take of % x: %+v, %d, wanted ErrCorrupt", why, b, l, e)
	}
}

// takesAsAsked holds Take against the words, and tells whether there was a list.
func takesAsAsked(t *testing.T, why string, b []byte) bool {
	t.Helper()
	want, e := slowTake(b)
	if e != api.OK {
		takesNot(t, why, b)
		return false
	}
	takes(t, why, b, want)
	return true
}

func finds(t *testing.T, why string, b []byte, want api.Entry) {
	t.Helper()
	if x, e := dirtab.Look(b, want.Name); x != want || e != api.OK {
		t.Errorf("%s: Look for %q: %+v, %d, wanted %+v", why, want.Name, x, e, want)
	}
}

func findsNot(t *testing.T, why string, b []byte, s string) {
	t.Helper()
	if x, e := dirtab.Look(b, s); x != (api.Entry{}) || e != api.ErrNone {
		t.Errorf("%s: Look for %q: %+v, %d, wanted ErrNone", why, s, x, e)
	}
}

// mayBe holds Put and Take of a list against whether it may be. The bytes of one that may not be are no list's, if its numbers and lengths fit.
func mayBe(t *testing.T, why string, l []api.Entry, want bool) {
	t.Helper()
	if slowMay(l) != want {
		t.Fatalf("%s: by the words it is %v that %+v may be", why, !want, l)
	}
	if want {
		puts(t, why, l)
		takes(t, why, laid(l), l)
		return
	}
	putsNot(t, why, l)
	takesAsAsked(t, why, laid(l))
}

func TestExampleOfTheChapter(t *testing.T) {
	a := api.Entry{Name: "a", Kind: 2, Ref: 5}
	b, e := dirtab.Put([]api.Entry{a})
	if string(b) != "\x01\x61\x02\x05\x00\x00\x00" || e != api.OK {
		t.Errorf("% x, %d", b, e)
	}
	finds(t, "example", b, a)
	findsNot(t, "example", b, "b")
}

// P10.1: Put.

func TestPutOfNone(t *testing.T) {
	for _, l := range [][]api.Entry{nil, {}, make([]api.Entry, 0, 5)} {
		if b, e := dirtab.Put(l); len(b) != 0 || e != api.OK {
			t.Errorf("% x, %d", b, e)
		}
	}
}

func TestPutTable(t *testing.T) {
	for _, x := range []struct {
		l    []api.Entry
		want string
	}{
		{[]api.Entry{{Name: "a", Kind: 1}}, "\x01a\x01\x00\x00\x00\x00"},
		{[]api.Entry{{Name: "bin", Kind: 3, Ref: 0x01020304}}, "\x03bin\x03\x04\x03\x02\x01"},
		{[]api.Entry{{Name: "a", Kind: 2, Ref: 0xfffefdfc}, {Name: "a\x01", Kind: 1, Ref: 256}, {Name: "b", Kind: 3, Ref: 1 << 24}},
			"\x01a\x02\xfc\xfd\xfe\xff" + "\x02a\x01\x01\x00\x01\x00\x00" + "\x01b\x03\x00\x00\x00\x01"},
		{[]api.Entry{{Name: longest()[0], Kind: 2, Ref: 1<<32 - 1}}, "\xff" + longest()[0] + "\x02\xff\xff\xff\xff"},
	} {
		if b, e := dirtab.Put(x.l); string(b) != x.want || e != api.OK {
			t.Errorf("%+v: % x, %d, wanted % x", x.l, b, e, x.want)
		}
	}
}

func TestPutOfListsThatMayBe(t *testing.T) {
	for _, l := range lists() {
		mayBe(t, "a list", l, true)
	}
}

// TestNamesRise: two names side by side, in both orders and twice, at the beginning of a list, in its midst and at its end.
func TestNamesRise(t *testing.T) {
	for _, x := range [][2]string{
		{"a", "b"}, {"a", "ab"}, {"ab", "b"}, {"a", "a\x01"}, {"a", "aa"}, {"A", "a"}, {"Z", "a"}, {"10", "9"}, {"a\x7f", "a\x80"},
		{"\x01", "\x02"}, {"\x7f", "\x80"}, {"\xc3", "\xc3\xa9"}, {"\xef\xbf\xbd", "\xf0\x90\x80\x80"}, {"\xfe", "\xff"}, {"z", "\xc3\xa9"},
		{longest()[0][:254], longest()[0]}, {longest()[0], longest()[1]},
	} {
		for _, around := range [][2][]string{{nil, nil}, {nil, {"\xff\xff"}}, {{"\x01"}, nil}, {{"\x01"}, {"\xff\xff"}}} {
			if len(around[0]) > 0 && x[0] == "\x01" {
				continue
			}
			join := func(names ...string) []api.Entry {
				return named(slices.Concat(around[0], names, around[1])...)
			}
			mayBe(t, "rising", join(x[0], x[1]), true)
			mayBe(t, "falling", join(x[1], x[0]), false)
			mayBe(t, "twice the first", join(x[0], x[0]), false)
			mayBe(t, "twice the second", join(x[1], x[1]), false)
			mayBe(t, "twice, not side by side", join(x[0], x[1], x[0]), false)
		}
	}
}

// TestSwapsOfAList: of a longer list each two that change places, and each that is there twice, also with another Kind and Ref.
func TestSwapsOfAList(t *testing.T) {
	l := named("a", "ab", "b", "c", "ca", "cb", "\xff")
	for i := range l {
		for j := range i {
			swapped := slices.Clone(l)
			swapped[i], swapped[j] = swapped[j], swapped[i]
			mayBe(t, "two that changed places", swapped, false)
		}
		twice := slices.Insert(slices.Clone(l), i, l[i])
		mayBe(t, "twice", twice, false)
		twice[i].Kind, twice[i].Ref = 1+twice[i].Kind%3, twice[i].Ref^1
		mayBe(t, "twice, as another thing", twice, false)
		mayBe(t, "without one", slices.Delete(slices.Clone(l), i, i+1), true)
	}
}

// everyPlace is a list of others with x at each place of it, which is where it stands if its name rises there.
func everyPlace(x api.Entry) [][]api.Entry {
	others := named("aa", "m", "zz")
	all := [][]api.Entry{{x}}
	for i := range len(others) + 1 {
		all = append(all, slices.Insert(slices.Clone(others), i, x))
	}
	return all
}

func TestNamesThatAreNotValid(t *testing.T) {
	for _, s := range []string{
		"", ".", "..", "/", "a/", "/a", "a/b", "\x00", "a\x00", "\x00a", "a\x00b", "\xff/", "\xc3/", "\xc3\x00", "\xff\x00\xff",
		tooLong(), tooLong() + "a", strings.Repeat("\xff", 256), strings.Repeat("a", 511), strings.Repeat("a", 512),
		strings.Repeat("a", 254) + "/", strings.Repeat("a", 254) + "\x00",
	} {
		for _, l := range everyPlace(api.Entry{Name: s, Kind: api.File, Ref: 7}) {
			mayBe(t, "a name that is not valid", l, false)
		}
	}
}

func TestNamesThatAreValid(t *testing.T) {
	for _, s := range []string{
		"a", "...", ".a", "a.", "..a", " ", "\\", "\n", "\x01", "\x7f", "\x80", "\xff", "\xc3\x28", "\xed\xa0\x80", "\xef\xbf\xbd", "\xf8\x88\x80\x80\x80",
		longest()[0], longest()[1], longest()[2], strings.Repeat("a", 254), strings.Repeat("\xc3\xa9", 127) + "a",
	} {
		mayBe(t, "a name that is valid", []api.Entry{{Name: s, Kind: api.Link, Ref: 7}}, true)
	}
	for c := range 256 { // each byte alone, and within a name
		for _, s := range []string{string([]byte{byte(c)}), string([]byte{'a', byte(c), 'b'})} {
			mayBe(t, "a byte", []api.Entry{{Name: s, Kind: api.Dir, Ref: 7}}, slowValid(s))
		}
	}
}

func TestKinds(t *testing.T) {
	for _, kind := range []int{math.MinInt, math.MinInt32, -255, -1, 0, 1, 2, 3, 4, 5, 255, 256, 257, 258, 259, 1<<32 + 1, math.MaxInt32, math.MaxInt} {
		may := kind == api.Dir || kind == api.File || kind == api.Link
		mayBe(t, "a Kind", []api.Entry{{Name: "n", Kind: kind, Ref: 9}}, may)
		for i := range 5 {
			l := named("a", "b", "c", "d", "e")
			l[i].Kind = kind
			mayBe(t, "a Kind among others", l, may)
		}
	}
	for kind := range 256 {
		takesAsAsked(t, "a Kind's byte", []byte{1, 'n', byte(kind), 9, 0, 0, 0})
	}
}

func TestRefs(t *testing.T) {
	for _, ref := range []int{
		math.MinInt, math.MinInt + 1, -1 << 32, math.MinInt32, -256, -1, 0, 1, 255, 256, 65535, 65536, 1<<24 - 1, 1 << 24,
		math.MaxInt32, 1 << 31, 1<<32 - 2, 1<<32 - 1, 1 << 32, 1<<32 + 1, 1 << 33, 1 << 40, math.MaxInt,
	} {
		may := ref >= 0 && ref <= 1<<32-1
		mayBe(t, "a Ref", []api.Entry{{Name: "n", Kind: api.File, Ref: ref}}, may)
		for i := range 5 {
			l := named("a", "b", "c", "d", "e")
			l[i].Ref = ref
			mayBe(t, "a Ref among others", l, may)
		}
	}
	same := named("a", "b", "c")
	same[0].Ref, same[1].Ref, same[2].Ref = 4, 4, 3
	mayBe(t, "Refs that are the same, or fall", same, true)
}

// P10.1: Take.

func TestTakeOfNone(t *testing.T) {
	for _, b := range [][]byte{nil, {}, mixed(1, 10)[:0]} {
		if l, e := dirtab.Take(b); len(l) != 0 || e != api.OK {
			t.Errorf("%+v, %d", l, e)
		}
	}
}

func TestTakeOfCutOnes(t *testing.T) {
	for _, l := range lists() {
		if len(l) > 60 {
			l = l[:60]
		}
		b := laid(l)
		whole := map[int]int{} // how many entries end there
		for n := range len(l) + 1 {
			whole[len(laid(l[:n]))] = n
		}
		for i := range len(b) + 1 {
			if n, ok := whole[i]; ok {
				takes(t, "cut between two", b[:i], l[:n])
			} else {
				takesNot(t, "cut within one", b[:i])
				takesNot(t, "cut within one, with no room", slices.Clip(slices.Clone(b[:i])))
			}
		}
	}
}

func TestTakeOfAByteMore(t *testing.T) {
	for _, l := range lists() {
		b := laid(l)
		for c := range 256 {
			takesNot(t, "a byte behind the list", append(slices.Clone(b), byte(c)))
		}
		for n := 2; n < 6; n++ {
			takesNot(t, "noughts behind the list", append(slices.Clone(b), make([]byte, n)...))
		}
		for c := range 256 {
			takesAsAsked(t, "a byte ahead of the list", append([]byte{byte(c)}, b...))
		}
	}
	l := named("a", "b")
	b := laid(l)
	for at := range b {
		for c := range 256 {
			takesAsAsked(t, "a byte within the list", slices.Insert(slices.Clone(b), at, byte(c)))
		}
		takesAsAsked(t, "a byte left out", slices.Delete(slices.Clone(b), at, at+1))
	}
}

func TestTakeOfTextsThatTellMore(t *testing.T) {
	for n := range 256 {
		for _, letters := range []int{0, 1, n / 2, n - 6, n - 1, n, n + 4, n + 5, n + 6} {
			if letters >= 0 {
				b := append([]byte{byte(n)}, bytes.Repeat([]byte{2}, letters)...)
				takesAsAsked(t, "a text", b)
				takesAsAsked(t, "a text behind an entry", append(laid(named("\x01")), b...))
			}
		}
	}
	takesNot(t, "a length alone", []byte{1})
	takesNot(t, "a length of 255 alone", []byte{255})
	takesNot(t, "more letters than there are", []byte("\x03ab"))
	takesNot(t, "letters as long as the rest", []byte("\x06a\x02\x05\x00\x00\x00"))
}

// TestTakeOfWrongOnes: of bytes that Put would not write, though they are entries.
func TestTakeOfWrongOnes(t *testing.T) {
	good := laid(named("m"))
	for _, s := range []string{
		"\x00\x02\x05\x00\x00\x00", "\x01.\x02\x05\x00\x00\x00", "\x02..\x01\x05\x00\x00\x00", "\x01/\x02\x05\x00\x00\x00",
		"\x03a/b\x02\x05\x00\x00\x00", "\x02a\x00\x02\x05\x00\x00\x00", "\x01\x00\x02\x05\x00\x00\x00",
		"\x01z\x00\x05\x00\x00\x00", "\x01z\x04\x05\x00\x00\x00", "\x01z\xff\x05\x00\x00\x00",
	} {
		takesNot(t, "alone", []byte(s))
		takesNot(t, "behind another", append(slices.Clone(good), s...))
		takesNot(t, "ahead of another", append([]byte(s), good...))
		takesNot(t, "ahead of one that is cut", append([]byte(s), good[:3]...))
	}
}

func TestTakeOfTurnedOnes(t *testing.T) {
	taken, refused := 0, 0
	for _, l := range [][]api.Entry{named("a"), named("a", "ab", "b"), named("\x01", "m", "\xff"), named("a", "b", "c", "d"), anyList(19)} {
		b := laid(l)
		for i := range b {
			for turn := 1; turn < 256; turn++ {
				b[i] ^= byte(turn)
				if takesAsAsked(t, "a byte turned", b) {
					taken++
				} else {
					refused++
				}
				b[i] ^= byte(turn)
			}
		}
	}
	if taken < 1000 || refused < 1000 {
		t.Errorf("%d taken, %d refused", taken, refused)
	}
}

func TestTakeOfAnyBytes(t *testing.T) {
	for seed := range uint32(2000) {
		b := mixed(seed, int(seed%64))
		takesAsAsked(t, "any bytes", b)
		for i := range b {
			b[i] %= 4
		}
		takesAsAsked(t, "low bytes", b)
	}
	taken := 0
	var b [7]byte // a name of one letter, or what is near to it
	for n := range 4 * 4 * 4 * 4 * 4 * 4 * 4 {
		for i := range b {
			b[i] = byte(n >> (2 * i) & 3)
		}
		if takesAsAsked(t, "seven low bytes", b[:]) {
			taken++
		}
	}
	if taken != 3*3*256 { // letters 1 to 3, Kinds 1 to 3
		t.Errorf("%d of seven bytes are lists", taken)
	}
}

// P10.1: Look.

func TestLookOfEachName(t *testing.T) {
	for _, l := range lists() {
		b := laid(l)
		for _, x := range l {
			finds(t, "a name of the list", b, x)
		}
	}
}

// TestLookOfOthers: ahead of the first, between two, behind the last, and what begins alike.
func TestLookOfOthers(t *testing.T) {
	for _, l := range lists() {
		if len(l) > 60 {
			l = l[:60]
		}
		b := laid(l)
		there := map[string]int{}
		for i, x := range l {
			there[x.Name] = i
		}
		asked := []string{"", "\x00", "\x01", "0", ".", "..", "/", "a", "aa", "abb", "abcd", "c", "\xff\xff\xff", tooLong(), strings.Repeat("a", 254), strings.Repeat("a", 261)}
		for _, x := range l {
			s := x.Name
			last := s[len(s)-1]
			asked = append(asked, s[:len(s)-1], s+"\x00", s+"a", s+s, s+"/", "/"+s, s[:len(s)-1]+string([]byte{last + 1}), s[:len(s)-1]+string([]byte{last - 1}),
				strings.ToUpper(s), s+"\x01", s[1:], string(laid([]api.Entry{x})))
		}
		for _, s := range asked {
			if i, ok := there[s]; ok {
				finds(t, "a name that is there", b, l[i])
			} else {
				findsNot(t, "a name that is not there", b, s)
			}
		}
	}
}

func TestLookTable(t *testing.T) {
	l := named("b", "bcd", "bce", "f")
	b := laid(l)
	for _, s := range []string{"", "a", "b\x00", "ba", "bc", "bcc", "bcdd", "bcda", "bcd\x00", "bcea", "bcf", "c", "e\xff", "fa", "g", "\xff", "B"} {
		findsNot(t, "not there", b, s)
	}
	for _, x := range l {
		finds(t, "there", b, x)
	}
}

func TestLookOfNoBytes(t *testing.T) {
	for _, b := range [][]byte{nil, {}} {
		for _, s := range []string{"", "a", ".", "\x00", tooLong()} {
			findsNot(t, "no bytes", b, s)
		}
	}
}

// TestLookEnds: of bytes that are no list's nothing is promised but that the call ends.
func TestLookEnds(t *testing.T) {
	for seed := range uint32(500) {
		b := mixed(seed, int(seed%80))
		for _, s := range []string{"", "a", string(b), string(b[:len(b)/2])} {
			if x, e := dirtab.Look(b, s); e != api.OK && x != (api.Entry{}) {
				t.Errorf("%+v beside %d", x, e)
			}
		}
	}
}

// P10.2.

func TestTakeAndLookOfPut(t *testing.T) {
	for _, l := range lists() {
		b, e := dirtab.Put(l)
		if e != api.OK {
			t.Fatalf("Put of %+v: %d", l, e)
		}
		takes(t, "what was put", b, l)
		for _, x := range l {
			finds(t, "what was put", b, x)
		}
		taken, _ := dirtab.Take(b)
		puts(t, "what was taken", taken)
	}
}

// R6, R7.

// TestWhatIsHandedInStays: lists and bytes stay as they are, with what stands around them.
func TestWhatIsHandedInStays(t *testing.T) {
	for _, l := range append(lists(), named("b", "a"), named("")) {
		entries := slices.Concat(named("ahead", "of"), l, named("spare", "room"))
		entriesBefore := slices.Clone(entries)
		list := entries[2 : 2+len(l) : len(entries)]
		first, e := dirtab.Put(list)
		if again, e2 := dirtab.Put(list); !bytes.Equal(again, first) || e2 != e {
			t.Errorf("another answer the second time: % x, %d", again, e2)
		}
		if !slices.Equal(entries, entriesBefore) {
			t.Error("Put changed entries")
		}

		room := slices.Concat(mixed(1, 16), laid(l), mixed(2, 100))
		roomBefore := slices.Clone(room)
		handed := room[16 : len(room)-100 : len(room)]
		taken, e := dirtab.Take(handed)
		if again, e2 := dirtab.Take(handed); !slices.Equal(again, taken) || e2 != e {
			t.Errorf("another answer the second time: %+v, %d", again, e2)
		}
		for _, x := range append(named("nowhere"), l...) {
			x1, e1 := dirtab.Look(handed, x.Name)
			if x2, e2 := dirtab.Look(handed, x.Name); x1 != x2 || e1 != e2 {
				t.Errorf("another answer the second time: %+v, %d", x2, e2)
			}
		}
		if !bytes.Equal(room, roomBefore) {
			t.Error("Take or Look changed bytes")
		}
	}
}

func TestWhatIsAnsweredIsTheCallers(t *testing.T) {
	l := named("a", "ab", "b")
	want := laid(l)
	first, _ := dirtab.Put(l)
	second, _ := dirtab.Put(l)
	clear(first[:cap(first)])
	third, _ := dirtab.Put(l)
	if !bytes.Equal(second, want) || !bytes.Equal(third, want) {
		t.Errorf("Put behind a change of its answer: % x, % x", second, third)
	}
	clear(l)
	if l = named("a", "ab", "b"); !bytes.Equal(third, want) {
		t.Errorf("Put's answer behind a change of the list: % x", third)
	}

	one, _ := dirtab.Take(want)
	two, _ := dirtab.Take(want)
	clear(one[:cap(one)])
	if !slices.Equal(two, l) {
		t.Errorf("two answers of Take: %+v", two)
	}
	found, _ := dirtab.Look(want, "ab")
	clear(want)
	if !slices.Equal(two, l) || found != l[1] {
		t.Errorf("answers behind a change of the bytes: %+v, %+v", two, found)
	}
	takesNot(t, "bytes that were cleared", want)
}
