package table_test

import (
	"bytes"
	"math"
	"slices"
	"strings"
	"testing"

	"lamella/api"
	"lamella/crc"
	"lamella/frame"
	"lamella/meta"
	"lamella/table"
	"lamella/tree"
)

func sameXattrs(a, b []api.Xattr) bool {
	return slices.EqualFunc(a, b, func(x, y api.Xattr) bool { return x.Name == y.Name && bytes.Equal(x.Value, y.Value) })
}

// copied shares nothing with l.
func copied(l []api.Xattr) []api.Xattr {
	l = slices.Clone(l)
	for i := range l {
		l[i].Value = slices.Clone(l[i].Value)
	}
	return l
}

// named are attributes of these names, with values that differ.
func named(names ...string) []api.Xattr {
	var l []api.Xattr
	for i, s := range names {
		l = append(l, api.Xattr{Name: s, Value: []byte("value " + string([]byte{byte('0' + i)}))})
	}
	return l
}

func valued(values ...[]byte) []api.Xattr {
	l := named([]string{"a", "b", "c", "d", "e", "f", "g", "h"}[:len(values)]...)
	for i, v := range values {
		l[i].Value = v
	}
	return l
}

// fullest are as many as may be, each as long as may be.
func fullest() []api.Xattr {
	var l []api.Xattr
	for i := range 8 {
		l = append(l, api.Xattr{Name: string([]byte{byte('a' + i)}) + strings.Repeat("n", 39), Value: mixed(uint32(i), 200)})
	}
	return l
}

// lists are some that may be, none of them empty.
func lists() [][]api.Xattr {
	return [][]api.Xattr{
		{{Name: "a", Value: []byte("b")}},
		{{Name: "a", Value: []byte("xy")}, {Name: "b"}},
		{{Name: "a"}},
		{{Name: "a", Value: []byte{}}, {Name: "aa", Value: make([]byte, 3)}},
		named("a", "ab", "b"),
		named("\x01", " ", "10", "9", "Z", "a", "\x80", "\xff"),
		named(strings.Repeat("n", 40)),
		named(strings.Repeat("n", 39), strings.Repeat("n", 40)),
		valued(mixed(1, 200)),
		valued(mixed(1, 199), nil, mixed(2, 200), mixed(3, 1)),
		valued(nil, nil, nil, nil, nil, nil, nil, nil),
		valued([]byte{0}, []byte{0, 1, 0}, []byte{255}, []byte("\x01a\x01b")),
		fullest(),
		fullest()[:3],
	}
}

// slowMay is chapter 7's attributes that may be, word by word.
func slowMay(l []api.Xattr) bool {
	if len(l) > 8 {
		return false
	}
	for i, x := range l {
		if len(x.Name) < 1 || len(x.Name) > 40 || len(x.Value) > 200 {
			return false
		}
		for j := range len(x.Name) {
			if x.Name[j] == 0 {
				return false
			}
		}
		if i > 0 && bytes.Compare([]byte(l[i-1].Name), []byte(x.Name)) >= 0 {
			return false
		}
	}
	return true
}

// laid are the bytes of any attributes whose numbers fit in a byte; of others the lowest byte of these.
func laid(l []api.Xattr) []byte {
	b := []byte{byte(len(l))}
	for _, x := range l {
		b = append(append(b, byte(len(x.Name))), x.Name...)
		b = append(append(b, byte(len(x.Value))), x.Value...)
	}
	return b
}

// fit tells whether laid is of all of l.
func fit(l []api.Xattr) bool {
	return len(l) < 256 && !slices.ContainsFunc(l, func(x api.Xattr) bool { return len(x.Name) > 255 || len(x.Value) > 255 })
}

// slowTake takes attributes that bytes begin with: there are none but those that the bytes are read as.
func slowTake(b []byte) ([]api.Xattr, api.Errno) {
	short := false
	next := func(n int) (part []byte) {
		if n > len(b) {
			b, short = nil, true
			return nil
		}
		part, b = b[:n], b[n:]
		return part
	}
	text := func() []byte {
		if n := next(1); len(n) > 0 {
			return next(int(n[0]))
		}
		return nil
	}
	var l []api.Xattr
	if count := next(1); len(count) > 0 {
		for range count[0] {
			name := text()
			l = append(l, api.Xattr{Name: string(name), Value: text()})
		}
	}
	if short || len(l) == 0 || !slowMay(l) {
		return nil, api.ErrCorrupt
	}
	return l, api.OK
}

func putsXattrs(t *testing.T, why string, l []api.Xattr) {
	t.Helper()
	if b, e := table.PutXattrs(l); !bytes.Equal(b, laid(l)) || e != api.OK {
		t.Errorf("%s: PutXattrs of %+v: % x, %d, wanted % x", why, l, b, e, laid(l))
	}
}

func putsXattrsNot(t *testing.T, why string, l []api.Xattr) {
	t.Helper()
	if b, e := table.PutXattrs(l); b != nil || e != api.ErrArg {
		t.Errorf("%s: PutXattrs of %+v: % x, %d, wanted ErrArg", why, l, b, e)
	}
}

func takesXattrs(t *testing.T, why string, r *meta.Reader, ref int, want []api.Xattr) {
	t.Helper()
	if l, e := table.TakeXattrs(r, ref); !sameXattrs(l, want) || e != api.OK {
		t.Errorf("%s: TakeXattrs at %d: %+v, %d, wanted %+v", why, ref, l, e, want)
	}
}

func takesXattrsNot(t *testing.T, why string, r *meta.Reader, ref int) {
	t.Helper()
	if l, e := table.TakeXattrs(r, ref); l != nil || e != api.ErrCorrupt {
		t.Errorf("%s: TakeXattrs at %d: %+v, %d, wanted ErrCorrupt", why, ref, l, e)
	}
}

// takesAsAsked holds TakeXattrs against P11.3 taken byte by byte, and tells whether there were attributes.
func takesAsAsked(t *testing.T, why string, r *meta.Reader, ref int) bool {
	t.Helper()
	want, e := slowTake(behind(r, ref))
	if e == api.OK {
		takesXattrs(t, why, r, ref, want)
	} else {
		takesXattrsNot(t, why, r, ref)
	}
	return e == api.OK
}

// mayBe holds all three against whether attributes may be. The bytes of ones that may not be are none's, if their numbers fit.
func mayBe(t *testing.T, why string, l []api.Xattr, want bool) {
	t.Helper()
	if slowMay(l) != want {
		t.Fatalf("%s: by the words it is %t that %+v may be", why, !want, l)
	}
	if table.MayXattrs(l) != want {
		t.Errorf("%s: MayXattrs of %+v: %t", why, l, !want)
	}
	r := row(laid(l))
	if want && len(l) > 0 {
		putsXattrs(t, why, l)
		takesXattrs(t, why, r, 0, l)
		return
	}
	putsXattrsNot(t, why, l)
	if fit(l) {
		takesXattrsNot(t, why, r, 0)
	}
}

// P11.3: MayXattrs, and what the others do of that.

func TestXattrsOfNone(t *testing.T) {
	for _, l := range [][]api.Xattr{nil, {}, named("a", "b")[:0]} {
		mayBe(t, "none", l, true)
	}
}

func TestXattrsThatMayBe(t *testing.T) {
	for _, l := range lists() {
		mayBe(t, "a list", l, true)
	}
}

func TestXattrsOfCounts(t *testing.T) {
	for n := range 300 {
		var names []string
		for i := range n {
			names = append(names, string([]byte{byte('a' + i/20), byte('a' + i%20)}))
		}
		mayBe(t, "a count", named(names...), n <= 8)
	}
	mayBe(t, "nine of the fullest", append(fullest(), api.Xattr{Name: "z"}), false)
	mayBe(t, "nine that are nothing", make([]api.Xattr, 9), false)
}

// TestXattrsRise: two names side by side, in both orders and twice, at the beginning of a list, in its midst and at its end.
func TestXattrsRise(t *testing.T) {
	long := strings.Repeat("a", 40)
	for _, x := range [][2]string{
		{"a", "b"}, {"a", "ab"}, {"ab", "b"}, {"a", "a\x01"}, {"a", "aa"}, {"A", "a"}, {"Z", "a"}, {"10", "9"}, {"a\x7f", "a\x80"},
		{"\x02", "\x03"}, {"\x7f", "\x80"}, {"\xc3", "\xc3\xa9"}, {"\xef\xbf\xbd", "\xf0\x90\x80\x80"}, {"\xfe", "\xff"}, {"z", "\xc3\xa9"},
		{long[:39], long}, {long, long[:39] + "b"}, {".", ".."}, {"/", "/a"},
	} {
		for _, around := range [][2][]string{{nil, nil}, {nil, {"\xff\xff"}}, {{"\x01"}, nil}, {{"\x01"}, {"\xff\xff"}}} {
			join := func(names ...string) []api.Xattr {
				return named(slices.Concat(around[0], names, around[1])...)
			}
			mayBe(t, "rising", join(x[0], x[1]), true)
			mayBe(t, "falling", join(x[1], x[0]), false)
			mayBe(t, "twice the first", join(x[0], x[0]), false)
			mayBe(t, "twice the second", join(x[1], x[1]), false)
			mayBe(t, "twice, not side by side", join(x[0], x[1], x[0]), false)
		}
	}
}

// TestXattrsOfSwaps: of eight each two that change places, and each that is there twice.
func TestXattrsOfSwaps(t *testing.T) {
	l := named("a", "ab", "b", "c", "ca", "cb", "d", "\xff")
	for i := range l {
		for j := range i {
			swapped := slices.Clone(l)
			swapped[i], swapped[j] = swapped[j], swapped[i]
			mayBe(t, "two that changed places", swapped, false)
		}
		rest := slices.Delete(slices.Clone(l), i, i+1)
		mayBe(t, "without one", rest, true)
		for j := range rest {
			twice := slices.Insert(slices.Clone(rest), j, rest[j])
			mayBe(t, "twice", twice, false)
			twice[j].Value = []byte("another")
			mayBe(t, "twice, of another value", twice, false)
		}
	}
}

// everyPlace is x alone, and among others at each place that its name may have, and any other one.
func everyPlace(x api.Xattr) [][]api.Xattr {
	others := named("\x01\x01", "m", "\xff\xff")
	all := [][]api.Xattr{{x}}
	for i := range len(others) + 1 {
		all = append(all, slices.Insert(slices.Clone(others), i, x))
	}
	return all
}

func TestXattrsOfNames(t *testing.T) {
	long := strings.Repeat("n", 40)
	for _, s := range []string{
		"", "\x00", "\x00a", "a\x00", "a\x00b", "\xff\x00", long[:39] + "\x00", "\x00" + long[:39], long + "n", long + "nn", strings.Repeat("n", 255), strings.Repeat("n", 256),
		strings.Repeat("n", 257), strings.Repeat("n", 1000), strings.Repeat("\xc3\xa9", 21), strings.Repeat("\xff", 41),
	} {
		for _, l := range everyPlace(api.Xattr{Name: s, Value: []byte("v")}) {
			mayBe(t, "a name that may not be", l, false)
		}
	}
	for _, s := range []string{"a", "/", ".", "..", "a/b", "user.a", " ", "\x01", "\x7f", "\x80", "\xff", "\xed\xa0\x80", long[:39], long, strings.Repeat("\xc3\xa9", 20), strings.Repeat("\xff", 40)} {
		mayBe(t, "a name that may be", []api.Xattr{{Name: s, Value: []byte("v")}}, true)
	}
	for c := range 256 { // each byte alone, and within a name
		for _, s := range []string{string([]byte{byte(c)}), string([]byte{'a', byte(c)}), string([]byte{byte(c), 'a'}), string([]byte{'a', byte(c), 'b'})} {
			mayBe(t, "a byte of a name", []api.Xattr{{Name: s}}, c != 0)
		}
	}
	for n := range 300 {
		mayBe(t, "a name's length", named(strings.Repeat("x", n)), n >= 1 && n <= 40)
	}
}

func TestXattrsOfValues(t *testing.T) {
	for n := range 300 {
		for _, v := range [][]byte{make([]byte, n), mixed(uint32(n), n)} {
			mayBe(t, "a value alone", valued(v), n <= 200)
			mayBe(t, "a value first", valued(v, []byte("x"), nil), n <= 200)
			mayBe(t, "a value in the midst", valued(nil, v, []byte("x")), n <= 200)
			mayBe(t, "a value last", valued([]byte("x"), nil, v), n <= 200)
		}
	}
	for c := range 256 {
		mayBe(t, "a byte of a value", valued([]byte{byte(c)}), true)
	}
	mayBe(t, "much", valued(make([]byte, 1<<20)), false)
}

// TestMayXattrsIsChapter7s: a tree's nodes of each kind have just the attributes that may be.
func TestMayXattrsIsChapter7s(t *testing.T) {
	all := append(lists(), nil, named("b", "a"), named("a", "a"), named(""), named("\x00"), make([]api.Xattr, 9), valued(make([]byte, 201)), named(strings.Repeat("n", 41)))
	for _, l := range all {
		nodes := []api.Node{
			{Ino: 1, Kind: api.Dir, Xattrs: l},
			{Ino: 2, Kind: api.File, Names: []string{"f"}, Data: []byte("data"), Xattrs: l},
			{Ino: 3, Kind: api.Link, Names: []string{"l"}, Target: "f", Xattrs: l},
		}
		if may, e := table.MayXattrs(l), tree.Check(nodes); may != (e == api.OK) {
			t.Errorf("MayXattrs of %+v: %t, Check: %d", l, may, e)
		}
	}
}

// P11.3: PutXattrs.

func TestPutXattrsTable(t *testing.T) {
	long := strings.Repeat("n", 40)
	for _, x := range []struct {
		l    []api.Xattr
		want string
	}{
		{[]api.Xattr{{Name: "a", Value: []byte("b")}}, "\x01\x01a\x01b"}, // the chapter's
		{[]api.Xattr{{Name: "a", Value: []byte("xy")}, {Name: "b"}}, "\x02\x01a\x02xy\x01b\x00"},
		{[]api.Xattr{{Name: "a"}}, "\x01\x01a\x00"},
		{[]api.Xattr{{Name: "user.a", Value: []byte{0, 255, 0}}}, "\x01\x06user.a\x03\x00\xff\x00"},
		{[]api.Xattr{{Name: long, Value: make([]byte, 200)}}, "\x01\x28" + long + "\xc8" + strings.Repeat("\x00", 200)},
		{valued(nil, nil, nil, nil, nil, nil, nil, nil), "\x08\x01a\x00\x01b\x00\x01c\x00\x01d\x00\x01e\x00\x01f\x00\x01g\x00\x01h\x00"},
	} {
		if b, e := table.PutXattrs(x.l); string(b) != x.want || e != api.OK {
			t.Errorf("%+v: % x, %d, wanted % x", x.l, b, e, x.want)
		}
	}
	if b, _ := table.PutXattrs(fullest()); len(b) != 1+8*(1+40+1+200) {
		t.Errorf("the fullest: %d bytes", len(b))
	}
}

// P11.3: TakeXattrs.

// TestTakeXattrsOfARow: several behind one another, with bytes ahead and behind, at each ref of the row.
func TestTakeXattrsOfARow(t *testing.T) {
	parts := [][]byte{[]byte("ahead"), laid(lists()[1]), {0}, laid(fullest()), laid(lists()[0]), laid(named("a", "ab", "b")), {9}, laid(valued(nil)), {1}}
	want := map[int][]api.Xattr{1: lists()[1], 3: fullest(), 4: lists()[0], 5: named("a", "ab", "b"), 7: valued(nil)}
	frames, refs := rowOf(parts...)
	r := open(frames)
	for i, ref := range refs {
		if l, ok := want[i]; ok {
			takesXattrs(t, "where they begin", r, ref, l)
			takesXattrs(t, "of a new reader", open(frames), ref, l)
		} else {
			takesXattrsNot(t, "where none begin", r, ref)
		}
	}
	taken := 0
	for ref := range 256*len(frames) + 600 {
		if takesAsAsked(t, "each ref", r, ref) {
			taken++
		}
	}
	if taken < len(want) {
		t.Errorf("%d taken", taken)
	}
}

func TestTakeXattrsTable(t *testing.T) {
	r := row([]byte("\x02\x01a\x02xy\x01b\x00"), []byte("\x01\x01a\x01b"))
	takesXattrs(t, "two", r, 0, []api.Xattr{{Name: "a", Value: []byte("xy")}, {Name: "b"}})
	takesXattrs(t, "the chapter's", r, 9, []api.Xattr{{Name: "a", Value: []byte("b")}})
	for ref := range 300 {
		if ref != 0 && ref != 9 {
			takesXattrsNot(t, "another ref", r, ref)
		}
	}
	// what stands within others is taken, if its bytes are attributes': a ref is any byte's
	inner := valued([]byte("in"))
	r = row(laid(valued(append(laid(inner), 'x'))))
	takesXattrs(t, "within a value", r, 4, inner)
}

func TestTakeXattrsOfRefsThatAreNone(t *testing.T) {
	frames, refs := rowOf(laid(lists()[0]), laid(fullest()))
	for _, r := range []*meta.Reader{open(frames), open(nil), open(blocksOf(t, nil)), open(mixed(1, 300)), open(make([]byte, 300))} {
		for _, ref := range []int{-1, -2, -127, -128, -255, -256, -257, -65536, math.MinInt + 1, math.MinInt} {
			takesXattrsNot(t, "below 0", r, ref)
		}
		for _, ref := range []int{refs[2], refs[2] + 1, 256 * len(frames), 256*len(frames) + 256, 1 << 31, 1<<32 - 1, 1 << 32, 1 << 62, math.MaxInt - 255, math.MaxInt} {
			takesXattrsNot(t, "behind the last one", r, ref)
		}
	}
	for ref := 128; ref < 256; ref++ {
		takesXattrsNot(t, "behind a frame's bytes", open(frames), ref)
	}
	for _, r := range append(notOpened(frames), notOpened(nil)...) {
		for _, ref := range []int{-1, 0, 1, refs[1], math.MaxInt} {
			takesXattrsNot(t, "no part of an image", r, ref)
		}
	}
}

// TestTakeXattrsAtAnyPlace: attributes begin at each place of a block, and end in it, at its end, or in a later one; more may follow or not.
func TestTakeXattrsAtAnyPlace(t *testing.T) {
	for _, l := range lists() {
		for ahead := range 257 {
			for _, more := range [][]byte{nil, {0}, {255, 255}} {
				frames, refs := rowOf(mixed(7, ahead), laid(l), more)
				takesXattrs(t, "a place", open(frames), refs[1], l)
			}
		}
	}
}

func TestTakeXattrsOfCutRows(t *testing.T) {
	for _, l := range lists() {
		b := laid(l)
		places := []int{0, 1, 100, 118, 124, 125, 126, 127, 128, 250}
		if len(b) > 1000 { // it meets many ends of blocks wherever it begins
			places = places[:2]
		}
		for _, ahead := range places {
			for n := range b {
				frames, refs := rowOf(mixed(7, ahead), b[:n])
				takesXattrsNot(t, "cut", open(frames), refs[1])
			}
		}
	}
}

// TestTakeXattrsOverShortFrames: attributes go on in the next frame only if theirs is full.
func TestTakeXattrsOverShortFrames(t *testing.T) {
	for _, l := range lists() {
		b := laid(l)
		for n := 1; n < min(len(b), 128); n++ {
			rest := b[n:min(len(b), n+128)]
			takesXattrsNot(t, "a short frame", open(blocksOf(t, b[:n], rest)), 0)
			takesXattrsNot(t, "a hole", open(blocksOf(t, b[:n], nil, rest)), 0)
			full := append(mixed(7, 128-n), b[:n]...)
			if len(rest) == len(b)-n {
				takesXattrs(t, "a full frame", open(blocksOf(t, full, rest)), 128-n, l)
			}
			takesXattrsNot(t, "a hole behind a full frame", open(blocksOf(t, full, nil, rest)), 128-n)
			takesXattrsNot(t, "a full frame alone", open(blocksOf(t, full)), 128-n)
		}
		if len(b) < 128 {
			takesXattrs(t, "whole in a short frame", open(blocksOf(t, b, mixed(1, 128))), 0, l)
			takesXattrs(t, "whole in a short frame, ahead of a hole", open(blocksOf(t, b, nil)), 0, l)
		}
	}
}

// TestTakeXattrsOfCounts: a count of none, of fewer than stand there (the rest is behind), of more, and of more than may be.
func TestTakeXattrsOfCounts(t *testing.T) {
	for _, l := range append(lists(), named("a", "b", "c", "d", "e", "f", "g", "h", "i", "j")) {
		b := laid(l)
		for count := range 256 {
			b[0] = byte(count)
			if count >= 1 && count <= min(8, len(l)) {
				takesXattrs(t, "a count", row(b), 0, l[:count])
			} else {
				takesXattrsNot(t, "a count", row(b), 0)
				takesXattrsNot(t, "a count, with noughts behind", row(b, make([]byte, 600)), 0)
			}
		}
	}
	var many []byte // 255 attributes, one behind the other
	for i := range 255 {
		many = append(many, 2, byte('a'+i/20), byte('a'+i%20), 1, byte(i))
	}
	for count := range 256 {
		if taken := takesAsAsked(t, "a count of many", row([]byte{byte(count)}, many), 0); taken != (count >= 1 && count <= 8) {
			t.Errorf("%d of many: %t", count, taken)
		}
	}
}

// TestTakeXattrsOfTexts: names and values that tell each number of letters, where there are fewer, as many, and more.
func TestTakeXattrsOfTexts(t *testing.T) {
	taken := 0
	for n := range 256 {
		for _, letters := range []int{0, 1, n / 2, n - 2, n - 1, n, n + 1, n + 2, n + 40} {
			if letters < 0 {
				continue
			}
			x := bytes.Repeat([]byte{'x'}, letters)
			for _, b := range [][]byte{
				append([]byte{1, byte(n)}, x...),
				append([]byte{1, 1, 'a', byte(n)}, x...),
				append([]byte{2, 1, 'a', 0, byte(n)}, x...),
				append([]byte{2, 1, 'a', 0, 1, 'b', byte(n)}, x...),
				append(append([]byte{1, byte(n)}, x...), 0),
				append(append([]byte{1, byte(n)}, x...), 3, 'v', 'v'),
			} {
				if takesAsAsked(t, "letters", row(b), 0) {
					taken++
				}
			}
		}
	}
	if taken < 1000 {
		t.Errorf("%d taken", taken)
	}
	takesXattrsNot(t, "a count alone", row([]byte{1}), 0)
	takesXattrsNot(t, "a name's length alone", row([]byte{1, 1}), 0)
	takesXattrsNot(t, "no value", row([]byte{1, 1, 'a'}), 0)
	takesXattrsNot(t, "a value's length alone", row([]byte{1, 1, 'a', 1}), 0)
	takesXattrs(t, "a value without letters", row([]byte{1, 1, 'a', 0}), 0, valued(nil))
}

// TestTakeXattrsOfOtherBytes: each byte of attributes as every other one, with bytes behind and without.
func TestTakeXattrsOfOtherBytes(t *testing.T) {
	taken, refused := 0, 0
	for _, l := range [][]api.Xattr{lists()[0], lists()[1], lists()[3], named("a", "ab", "b"), valued([]byte{0}, []byte("\x01a\x01b")), named("m", "n")} {
		b := laid(l)
		for at := range b {
			for turn := 1; turn < 256; turn++ {
				b[at] ^= byte(turn)
				for _, more := range [][]byte{nil, []byte("zzzz\x01zz\x01")} {
					if takesAsAsked(t, "another byte", row(b, more), 0) {
						taken++
					} else {
						refused++
					}
				}
				b[at] ^= byte(turn)
			}
		}
	}
	if taken < 1000 || refused < 1000 {
		t.Errorf("%d taken, %d refused", taken, refused)
	}
}

func TestTakeXattrsOfAnyBytes(t *testing.T) {
	for seed := range uint32(3000) {
		b := mixed(seed, int(seed%200))
		takesAsAsked(t, "any bytes", row(b), 0)
		for i := range b {
			b[i] %= 4
		}
		r := row(b)
		for ref := range min(len(b), 20) {
			takesAsAsked(t, "low bytes", r, ref)
		}
	}
	taken := 0
	var b [6]byte
	for n := range 4 * 4 * 4 * 4 * 4 * 4 {
		for i := range b {
			b[i] = byte(n >> (2 * i) & 3)
		}
		if takesAsAsked(t, "six low bytes", row(b[:]), 0) {
			taken++
		}
	}
	if taken < 100 {
		t.Errorf("%d of six bytes are attributes", taken)
	}
}

// TestTakeXattrsOfATurnedByte: attributes are none, if a frame that they need has a byte turned; the others are as they were.
func TestTakeXattrsOfATurnedByte(t *testing.T) {
	l := [][]api.Xattr{lists()[0], named("a", "ab", "b"), valued(mixed(1, 199), nil, mixed(2, 20)), lists()[1], valued(make([]byte, 200)), valued(nil)}
	var parts [][]byte
	for _, x := range l {
		parts = append(parts, laid(x))
	}
	frames, refs := rowOf(parts...)
	frameOf := make([]int, len(frames)) // the place of the frame that a byte is of
	for at := 0; at < len(frames); {
		next, e := frame.Skip(frames, at)
		if e != api.OK {
			t.Fatal(e)
		}
		for i := at; i < next; i++ {
			frameOf[i] = at
		}
		at = next
	}
	for at := range frames {
		for turn := 1; turn < 256; turn += 11 {
			turned := slices.Clone(frames)
			turned[at] ^= byte(turn)
			r := open(turned)
			for n, x := range l {
				first, last := refs[n]/256, refs[n+1]/256
				if refs[n+1]%256 == 0 {
					last = frameOf[last-1]
				}
				if first <= frameOf[at] && frameOf[at] <= last {
					takesXattrsNot(t, "turned", r, refs[n])
				} else {
					takesXattrs(t, "another frame turned", r, refs[n], x)
				}
			}
		}
	}
}

func TestTakeXattrsOfAPart(t *testing.T) {
	frames, refs := rowOf(laid(lists()[0]), laid(fullest()), laid(lists()[1]))
	image := slices.Concat(mixed(1, 70), frames, frames)
	r := meta.Open(newTable(), image, 70, 70+len(frames))
	takesXattrs(t, "in an image", r, refs[0], lists()[0])
	takesXattrs(t, "in an image", r, refs[1], fullest())
	takesXattrs(t, "in an image", r, refs[2], lists()[1])
	takesXattrsNot(t, "behind to", r, refs[3])
	for to := range frames {
		r := meta.Open(newTable(), image, 70, 70+to)
		takesXattrsNot(t, "up to a place", r, refs[2])
		takesAsAsked(t, "up to a place", r, refs[0])
		takesAsAsked(t, "up to a place", r, refs[1])
	}
}

func TestTakeXattrsByATable(t *testing.T) {
	w := meta.New(strange())
	ref := w.Add(laid(fullest()))
	frames := w.Done()
	takesXattrs(t, "its table", meta.Open(strange(), frames, 0, len(frames)), ref, fullest())
	takesXattrsNot(t, "another table", open(frames), ref)
}

// P11.4: attributes.

// TestTakeXattrsOfPut: all of them one behind the other in one row, forwards and backwards, and each in a row of its own.
func TestTakeXattrsOfPut(t *testing.T) {
	l := lists()
	var parts [][]byte
	for _, x := range l {
		b, e := table.PutXattrs(x)
		if e != api.OK {
			t.Fatalf("PutXattrs of %+v: %d", x, e)
		}
		parts = append(parts, b)
		takesXattrs(t, "a row of its own", row(b), 0, x)
	}
	frames, refs := rowOf(parts...)
	r := open(frames)
	for i, x := range l {
		takesXattrs(t, "one row", r, refs[i], x)
		again, _ := table.TakeXattrs(r, refs[i])
		putsXattrs(t, "what was taken", again)
	}
	for i := len(l) - 1; i >= 0; i-- {
		takesXattrs(t, "backwards", r, refs[i], l[i])
	}
	takesXattrsNot(t, "behind the last", r, refs[len(l)])
}

// R6, R7.

// TestXattrsStay: what is handed in stays as it was, with the spare room behind lists and values.
func TestXattrsStay(t *testing.T) {
	wrong := [][]api.Xattr{nil, named("b", "a"), named(""), make([]api.Xattr, 9), valued(make([]byte, 201))}
	for _, l := range append(lists(), wrong...) {
		values := []byte("some bytes, of which values are parts, and others that are spare room behind them")
		room := slices.Concat(named("ahead"), copied(l), named("spare", "room"))
		for i := range room {
			if n := len(room[i].Value); n <= 8 {
				room[i].Value = values[i : i+n]
			}
		}
		before, valuesBefore := copied(room), slices.Clone(values)
		list := room[1 : 1+len(l)]
		may := table.MayXattrs(list)
		first, e := table.PutXattrs(list)
		again, e2 := table.PutXattrs(list)
		if !bytes.Equal(again, first) || e2 != e || table.MayXattrs(list) != may {
			t.Errorf("another answer the second time: % x, %d", again, e2)
		}
		if !sameXattrs(room, before) || !bytes.Equal(values, valuesBefore) {
			t.Errorf("changed: %+v, %q", room, values)
		}
		clear(first[:cap(first)])
		if !sameXattrs(room, before) || !bytes.Equal(values, valuesBefore) {
			t.Error("PutXattrs' answer shares something with the values")
		}
		kept := slices.Clone(again)
		clear(values)
		clear(room)
		if !bytes.Equal(again, kept) {
			t.Error("PutXattrs' answer hangs on what was handed in")
		}
	}
}

// TestTakenXattrsAreTheCallers: no two values share anything, nor does one with the reader or the image.
func TestTakenXattrsAreTheCallers(t *testing.T) {
	want := valued([]byte("first"), nil, []byte("second"), mixed(1, 200), []byte("last"))
	frames, refs := rowOf([]byte("ahead"), laid(want))
	image := slices.Concat(mixed(1, 16), frames, mixed(2, 100))
	before := slices.Clone(image)
	sums := newTable()
	r := meta.Open(sums, image[:16+len(frames)], 16, 16+len(frames))
	one, _ := table.TakeXattrs(r, refs[1])
	takesXattrsNot(t, "between two", r, -1)
	takesXattrsNot(t, "between two", r, refs[0])
	two, _ := table.TakeXattrs(r, refs[1])
	for i := range one {
		value := one[i].Value
		clear(value[:cap(value)])
		if !sameXattrs(one[i+1:], want[i+1:]) || !sameXattrs(two, want) {
			t.Fatalf("the %d-th value is shared", i)
		}
	}
	clear(one[:cap(one)])
	if !bytes.Equal(image, before) || *sums != crc.New() {
		t.Error("TakeXattrs changed the image or the table of sums")
	}
	clear(image)
	if !sameXattrs(two, want) {
		t.Errorf("behind a change of the image: %+v", two)
	}
	takesXattrs(t, "behind a change of the answer", r, refs[1], want)
}
