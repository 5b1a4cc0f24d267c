package name_test

import (
	"slices"
	"strings"
	"testing"

	"lamella/api"
	"lamella/name"
)

// texts is each text of at most so many of these bytes.
func texts(letters string, most int) []string {
	all := []string{""}
	from := 0
	for range most {
		to := len(all)
		for _, s := range all[from:to] {
			for i := range len(letters) {
				all = append(all, s+letters[i:i+1])
			}
		}
		from = to
	}
	return all
}

// rows is each row of at most so many of these names.
func rows(names []string, most int) [][]string {
	all := [][]string{nil}
	from := 0
	for range most {
		to := len(all)
		for _, l := range all[from:to] {
			for _, s := range names {
				all = append(all, append(slices.Clip(l), s))
			}
		}
		from = to
	}
	return all
}

// slowValid is P6.1 byte by byte.
func slowValid(s string) api.Errno {
	if len(s) > 255 {
		return api.ErrLong
	}
	dots := 0
	for i := range len(s) {
		if s[i] == 0 || s[i] == '/' {
			return api.ErrName
		}
		if s[i] == '.' {
			dots++
		}
	}
	if dots == len(s) && dots <= 2 {
		return api.ErrName
	}
	return api.OK
}

// P6.1.

func TestValidTable(t *testing.T) {
	long := strings.Repeat("x", 255)
	for _, x := range []struct {
		s    string
		want api.Errno
	}{
		{"a", api.OK}, {"a b", api.OK}, {" ", api.OK}, {"\n", api.OK}, {"\\", api.OK}, {"0", api.OK},
		{"", api.ErrName}, {".", api.ErrName}, {"..", api.ErrName},
		{"...", api.OK}, {"....", api.OK}, {".a", api.OK}, {"..a", api.OK}, {"a.", api.OK}, {"a..", api.OK}, {". ", api.OK}, {" .", api.OK}, {".\xff", api.OK},
		{"/", api.ErrName}, {"/a", api.ErrName}, {"a/", api.ErrName}, {"a/b", api.ErrName}, {"./", api.ErrName}, {"../", api.ErrName},
		{"\x00", api.ErrName}, {"\x00a", api.ErrName}, {"a\x00", api.ErrName}, {"a\x00b", api.ErrName}, {"\x00/", api.ErrName},
		{long, api.OK}, {long + "x", api.ErrLong}, {strings.Repeat("x", 5000), api.ErrLong},
		{strings.Repeat(".", 255), api.OK}, {strings.Repeat(".", 256), api.ErrLong},
		{"/" + long[1:], api.ErrName}, {long[1:] + "/", api.ErrName}, {long[:100] + "/" + long[:154], api.ErrName},
		{"\x00" + long[1:], api.ErrName}, {long[1:] + "\x00", api.ErrName}, {long[:100] + "\x00" + long[:154], api.ErrName},
		{"/" + long, api.ErrLong}, {long + "/", api.ErrLong}, {long[:9] + "/" + long, api.ErrLong},
		{"\x00" + long, api.ErrLong}, {long + "\x00", api.ErrLong}, {long[:9] + "\x00" + long, api.ErrLong},
		{strings.Repeat("/", 256), api.ErrLong}, {strings.Repeat("\x00", 256), api.ErrLong}, {strings.Repeat("\x00", 255), api.ErrName},
	} {
		if e := name.Valid(x.s); e != x.want {
			t.Errorf("Valid(%q): %d, wanted %d", x.s, e, x.want)
		}
	}
}

// TestValidCountsBytes: letters of several bytes each are as long as their bytes.
func TestValidCountsBytes(t *testing.T) {
	for _, letter := range []string{"é", "€", "\U00010348", "\x80", "\xff", "\xe2\x82", "\xed\xa0\x80"} {
		s := strings.Repeat(letter, 255/len(letter))
		s += strings.Repeat("x", 255-len(s))
		for more, want := range map[string]api.Errno{"": api.OK, "x": api.ErrLong, letter: api.ErrLong} {
			if e := name.Valid(s + more); e != want {
				t.Errorf("%q, %d bytes: %d, wanted %d", letter, len(s+more), e, want)
			}
		}
	}
}

// TestValidOfEachByte: of all bytes 0 and the slash alone are none of a name, wherever they stand.
func TestValidOfEachByte(t *testing.T) {
	for c := range 256 {
		s := string([]byte{byte(c)})
		want := api.OK
		if c == 0 || c == '/' {
			want = api.ErrName
		}
		for _, long := range []string{s + "ab", "a" + s + "b", "ab" + s, s + s + s, "é" + s + "\x80", "\xe2\x82" + s} {
			if e := name.Valid(long); e != want {
				t.Errorf("Valid(%q): %d, wanted %d", long, e, want)
			}
		}
	}
}

// TestValidOfBytesThatAreNoLetters: a letter that is broken off does not swallow what stands behind it, and one that stands for a slash in too many bytes is none.
func TestValidOfBytesThatAreNoLetters(t *testing.T) {
	for s, want := range map[string]api.Errno{
		"\x80": api.OK, "\xff\xfe": api.OK, "\xc0\xaf": api.OK, "\xc0\x80": api.OK, "\xe0\x80\xaf": api.OK, "\xed\xa0\x80": api.OK, "\xf4\x90\x80\x80": api.OK, "\ufffd": api.OK, "\u2215": api.OK,
		"\xc3/": api.ErrName, "\xe2\x82/": api.ErrName, "\xf0\x90\x8d/": api.ErrName, "\xff/": api.ErrName,
		"\xc3\x00": api.ErrName, "\xe2\x82\x00": api.ErrName, "\xf0\x90\x8d\x00": api.ErrName, "\xff\x00": api.ErrName,
		"/\x80": api.ErrName, "\x00\x80": api.ErrName,
	} {
		if e := name.Valid(s); e != want {
			t.Errorf("Valid(%q): %d, wanted %d", s, e, want)
		}
	}
}

func TestValidIsTheRule(t *testing.T) {
	for _, s := range texts("\x00./a\x80\xc3\xe2", 5) {
		if e, want := name.Valid(s), slowValid(s); e != want {
			t.Fatalf("Valid(%q): %d, wanted %d", s, e, want)
		}
	}
	for n := range 600 {
		for _, c := range []string{"x", ".", "/", "\x00", "\xff"} {
			if s := strings.Repeat(c, n); name.Valid(s) != slowValid(s) {
				t.Fatalf("%d of %q: %d", n, c, name.Valid(s))
			}
		}
	}
}

// P6.2.

// ahead is whether a text is less than another, by bytes that are held against each other as numbers.
func ahead(a, b string) bool {
	for i := range min(len(a), len(b)) {
		if a[i] != b[i] {
			return int(a[i]) < int(b[i])
		}
	}
	return len(a) < len(b)
}

// common is the first place where two rows differ.
func common(a, b []string) int {
	n := 0
	for n < len(a) && n < len(b) && a[n] == b[n] {
		n++
	}
	return n
}

func slowLess(a, b []string) bool {
	n := common(a, b)
	if n == len(a) || n == len(b) {
		return len(a) < len(b)
	}
	return ahead(a[n], b[n])
}

// compares holds all three calls, both ways round, against what is said of a and b.
func compares(t *testing.T, a, b []string, less, same, below bool) {
	t.Helper()
	if name.Less(a, b) != less || name.Less(b, a) != (!less && !same) {
		t.Errorf("Less of %q and %q: %t, %t", a, b, name.Less(a, b), name.Less(b, a))
	}
	if name.Same(a, b) != same || name.Same(b, a) != same {
		t.Errorf("Same of %q and %q: %t, %t", a, b, name.Same(a, b), name.Same(b, a))
	}
	if name.Below(b, a) != below {
		t.Errorf("Below(%q, %q): %t", b, a, name.Below(b, a))
	}
}

func TestExamplesOfRows(t *testing.T) {
	if !name.Less([]string{"a"}, []string{"a", "b"}) || !name.Less([]string{"a", "z"}, []string{"ab"}) {
		t.Error("the chapter's examples")
	}
}

func TestRowsTable(t *testing.T) {
	for _, x := range []struct {
		a, b              []string
		less, same, below bool // below: b below a
	}{
		{nil, nil, false, true, false},
		{nil, []string{}, false, true, false},
		{nil, []string{"a"}, true, false, true},
		{nil, []string{""}, true, false, true},
		{[]string{}, []string{"a", "b"}, true, false, true},
		{[]string{"a"}, []string{"a"}, false, true, false},
		{[]string{"a", "b"}, []string{"a", "b"}, false, true, false},
		{[]string{"a"}, []string{"a", "b"}, true, false, true},
		{[]string{"a"}, []string{"a", ""}, true, false, true},
		{[]string{"a"}, []string{"a", "b", "c"}, true, false, true},
		{[]string{"a", "b"}, []string{"a", "b", "c"}, true, false, true},
		{[]string{"a"}, []string{"b"}, true, false, false},
		{[]string{"a", "z"}, []string{"b"}, true, false, false},
		{[]string{"a"}, []string{"b", "a"}, true, false, false},
		{[]string{"b"}, []string{"a", "b"}, false, false, false},
		{[]string{"a", "b"}, []string{"a", "c"}, true, false, false},
		{[]string{"a", "b", "z"}, []string{"a", "c", "a"}, true, false, false},
		{[]string{"a", "b"}, []string{"a", "c", "d"}, true, false, false},
		{[]string{"a", "b", "c"}, []string{"a", "b", "d", "e"}, true, false, false},
		{[]string{"a"}, []string{"ab"}, true, false, false},
		{[]string{"a", "z"}, []string{"ab"}, true, false, false},
		{[]string{"a", "z"}, []string{"a!"}, true, false, false},
		{[]string{"a", "b"}, []string{"a", "bc"}, true, false, false},
		{[]string{"a", "b", "z"}, []string{"a", "bc", "a"}, true, false, false},
		{[]string{"ab"}, []string{"a", "b"}, false, false, false},
		{[]string{"a/b"}, []string{"a", "b"}, false, false, false},
		{[]string{""}, []string{"a"}, true, false, false},
		{[]string{"", "z"}, []string{"a"}, true, false, false},
		{[]string{"A"}, []string{"a"}, true, false, false},
		{[]string{"Z"}, []string{"a"}, true, false, false},
		{[]string{"10"}, []string{"9"}, true, false, false},
		{[]string{"\x7f"}, []string{"\x80"}, true, false, false},
		{[]string{"\x80"}, []string{"\xff"}, true, false, false},
		{[]string{"\x00"}, []string{"\xff"}, true, false, false},
		{[]string{"z"}, []string{"é"}, true, false, false},
		{[]string{"a", "\x80"}, []string{"a", "\x81"}, true, false, false},
		{[]string{"\uffff"}, []string{"\U00010000"}, true, false, false},
		{[]string{"\x80\xff"}, []string{"\xef\xbf\xbd"}, true, false, false},
		{[]string{"\xef\xbf\xbd"}, []string{"\xff"}, true, false, false},
		{[]string{"\xfe"}, []string{"\xff"}, true, false, false},
	} {
		compares(t, x.a, x.b, x.less, x.same, x.below)
	}
}

func TestRowsAreTheRule(t *testing.T) {
	names := []string{"a", "ab", "b", "", "\x7f", "\x80", "é", "\xff"}
	all := rows(names, 3)
	for _, a := range all {
		for _, b := range all {
			same := len(a) == len(b) && common(a, b) == len(a)
			compares(t, a, b, slowLess(a, b), same, common(a, b) == len(a) && len(b) > len(a))
		}
		if t.Failed() {
			return
		}
	}
}

func TestBelowTable(t *testing.T) {
	for _, x := range []struct {
		l, root []string
		want    bool
	}{
		{nil, nil, false}, {nil, []string{"a"}, false}, {[]string{"a"}, nil, true},
		{[]string{"a"}, []string{"a"}, false}, {[]string{"a", "b"}, []string{"a", "b"}, false},
		{[]string{"a"}, []string{"a", "b"}, false}, {[]string{"a"}, []string{"a", "b", "c"}, false},
		{[]string{"a", "b"}, []string{"a"}, true}, {[]string{"a", "b", "c"}, []string{"a"}, true},
		{[]string{"a", "b"}, []string{"b"}, false}, {[]string{"ab"}, []string{"a"}, false}, {[]string{"ab", "c"}, []string{"a"}, false},
		{[]string{"a", "b", "c"}, []string{"a", "c"}, false}, {[]string{"a", "b", "c"}, []string{"x", "b"}, false},
		{[]string{"a", ""}, []string{"a"}, true}, {[]string{"a", "b"}, []string{""}, false},
	} {
		if name.Below(x.l, x.root) != x.want {
			t.Errorf("Below(%q, %q): %t", x.l, x.root, !x.want)
		}
	}
}

// TestRowsWithSpareRoom: what stands behind a row's end is none of it, and stays (R7).
func TestRowsWithSpareRoom(t *testing.T) {
	under := []string{"a", "b", "c"}
	a, b := under[:1], []string{"a", "b"}
	compares(t, a, b, true, false, true)
	compares(t, a, []string{"a"}, false, true, false)
	compares(t, under[:2], b, false, true, false)
	name.Join(a)
	if !slices.Equal(under, []string{"a", "b", "c"}) {
		t.Errorf("%q", under)
	}
}
