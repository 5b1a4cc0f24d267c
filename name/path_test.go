package name_test

import (
	"slices"
	"strings"
	"testing"

	"lamella/api"
	"lamella/name"
)

// slowSplit is P6.3 byte by byte.
func slowSplit(path string) ([]string, bool, api.Errno) {
	if len(path) > 1000 {
		return nil, false, api.ErrLong
	}
	if path == "" || path[0] != '/' {
		return nil, false, api.ErrName
	}
	var l []string
	part, last := "", ""
	for i := 1; i <= len(path); i++ {
		if i < len(path) && path[i] != '/' {
			part += path[i : i+1]
			continue
		}
		last, part = part, ""
		if last == "" || last == "." {
			continue
		}
		if e := slowValid(last); e != api.OK && last != ".." {
			return nil, false, e
		}
		l = append(l, last)
	}
	return l, last == "" || last == "." || last == "..", api.OK
}

func splits(t *testing.T, path string, want []string, dir bool) {
	t.Helper()
	if l, d, e := name.Split(path); !slices.Equal(l, want) || d != dir || e != api.OK {
		t.Errorf("Split(%q): %q, %t, %d, wanted %q, %t", path, l, d, e, want, dir)
	}
}

func splitsNot(t *testing.T, path string, want api.Errno) {
	t.Helper()
	if l, d, e := name.Split(path); l != nil || d || e != want {
		t.Errorf("Split(%q): %q, %t, %d, wanted %d", path, l, d, e, want)
	}
}

// P6.3: Split.

func TestExamplesOfPaths(t *testing.T) {
	splits(t, "/a//./b", []string{"a", "b"}, false)
	splits(t, "/a/../b/", []string{"a", "..", "b"}, true)
	splits(t, "/", nil, true)
	splitsNot(t, "a", api.ErrName)
}

func TestSplitTable(t *testing.T) {
	for _, x := range []struct {
		path string
		want []string
		dir  bool
	}{
		{"/a", []string{"a"}, false}, {"/a/b", []string{"a", "b"}, false}, {"/a/b/c", []string{"a", "b", "c"}, false},
		{"//", nil, true}, {"///", nil, true}, {"//a", []string{"a"}, false}, {"/a///b", []string{"a", "b"}, false},
		{"/a/", []string{"a"}, true}, {"/a//", []string{"a"}, true}, {"/a///", []string{"a"}, true},
		{"/.", nil, true}, {"/./", nil, true}, {"/./.", nil, true}, {"/a/.", []string{"a"}, true}, {"/a/./", []string{"a"}, true}, {"/./a", []string{"a"}, false},
		{"/..", []string{".."}, true}, {"/../", []string{".."}, true}, {"/../..", []string{"..", ".."}, true}, {"/a/..", []string{"a", ".."}, true}, {"/a/../", []string{"a", ".."}, true}, {"/../a", []string{"..", "a"}, false}, {"/.././a", []string{"..", "a"}, false}, {"/../.", []string{".."}, true},
		{"/...", []string{"..."}, false}, {"/.../", []string{"..."}, true}, {"/.a", []string{".a"}, false}, {"/a.", []string{"a."}, false}, {"/a..", []string{"a.."}, false}, {"/..a", []string{"..a"}, false}, {"/. ", []string{". "}, false}, {"/ /", []string{" "}, true},
		{"/é/\xff", []string{"é", "\xff"}, false}, {"/\xc3/\xe2\x82/", []string{"\xc3", "\xe2\x82"}, true}, {"/.\x80", []string{".\x80"}, false}, {"/\xc0\xaf", []string{"\xc0\xaf"}, false},
	} {
		splits(t, x.path, x.want, x.dir)
	}
}

func TestSplitOfNoPath(t *testing.T) {
	for _, path := range []string{"", "a", "a/", "a/b", ".", "..", "./", "./a", "../a", " /a", "\x00", "\x00/a", "\x80/", "\xc0\xaf", strings.Repeat("x", 256), strings.Repeat("x", 1000), "a/" + strings.Repeat("x", 256)} {
		splitsNot(t, path, api.ErrName)
	}
}

func TestSplitOfParts(t *testing.T) {
	long := strings.Repeat("x", 255)
	splits(t, "/"+long, []string{long}, false)
	splits(t, "/"+long+"/", []string{long}, true)
	splits(t, "/a/"+strings.Repeat("é", 127)+"/b", []string{"a", strings.Repeat("é", 127), "b"}, false)
	for _, x := range []struct {
		path string
		want api.Errno
	}{
		{"/" + long + "x", api.ErrLong}, {"/a/" + long + "x", api.ErrLong}, {"/" + long + "x/a", api.ErrLong}, {"/a/" + long + "x/", api.ErrLong},
		{"/" + strings.Repeat("é", 128), api.ErrLong}, {"/" + strings.Repeat(".", 256), api.ErrLong},
		{"/\x00", api.ErrName}, {"/\x00a", api.ErrName}, {"/a\x00", api.ErrName}, {"/a\x00b", api.ErrName}, {"/a/b/\x00/", api.ErrName}, {"/a\x00/..", api.ErrName}, {"/.\x00", api.ErrName}, {"/..\x00/a", api.ErrName}, {"/\xe2\x82\x00", api.ErrName},
		{"/" + long + "x/a\x00", api.ErrLong}, {"/a\x00/" + long + "x", api.ErrName},
		{"/ok/../" + long + "x/./a\x00/b", api.ErrLong}, {"/ok/../a\x00/./" + long + "x/b", api.ErrName},
		{"/" + long + "\x00", api.ErrLong}, {"/" + long[1:] + "\x00", api.ErrName},
	} {
		splitsNot(t, x.path, x.want)
	}
}

func TestSplitOfLongPaths(t *testing.T) {
	long := strings.Repeat("x", 249)
	four := "/" + long + "/" + long + "/" + long + "/" + long
	l := []string{long, long, long, long}
	splits(t, four, l, false)
	splits(t, four[:999], []string{long, long, long, long[1:]}, false)
	splits(t, four[:998]+"/", []string{long, long, long, long[2:]}, true)
	splits(t, four[:999]+"/", []string{long, long, long, long[1:]}, true)
	splits(t, strings.Repeat("/", 1000), nil, true)
	splits(t, "/"+strings.Repeat("./", 499)+"a", []string{"a"}, false)
	splits(t, strings.Repeat("/a", 500), slices.Repeat([]string{"a"}, 500), false)
	splits(t, strings.Repeat("/é/", 250), slices.Repeat([]string{"é"}, 250), true)
	splitsNot(t, "/"+strings.Repeat("x", 999), api.ErrLong)
	splitsNot(t, strings.Repeat("x", 1000), api.ErrName)
	splitsNot(t, "/a\x00"+strings.Repeat("/", 997), api.ErrName)
	for _, path := range []string{four + "x", four + "/", "/" + four, strings.Repeat("/", 1001), strings.Repeat("x", 1001), strings.Repeat("\x00", 1001), "/a\x00" + strings.Repeat("/", 998), strings.Repeat("/a", 500) + "/", "/" + strings.Repeat("é", 500), strings.Repeat("/a", 5000)} {
		splitsNot(t, path, api.ErrLong)
	}
}

func likeSlowSplit(t *testing.T, path string) {
	t.Helper()
	l, dir, e := name.Split(path)
	if want, wantDir, wantE := slowSplit(path); !slices.Equal(l, want) || dir != wantDir || e != wantE {
		t.Fatalf("Split(%q): %q, %t, %d, wanted %q, %t, %d", path, l, dir, e, want, wantDir, wantE)
	}
}

func TestSplitIsTheRule(t *testing.T) {
	for _, s := range texts("\x00./a\xc3", 6) {
		likeSlowSplit(t, s)
		likeSlowSplit(t, "/"+s)
	}
	pieces := []string{"/", "a", ".", "..", "\x00", "\xe2\x82", strings.Repeat("x", 254), strings.Repeat("y", 256)}
	for _, l := range rows(pieces, 5) {
		likeSlowSplit(t, "/"+strings.Join(l, ""))
	}
}

// P6.3: Join.

func TestJoinTable(t *testing.T) {
	for _, x := range []struct {
		l    []string
		want string
	}{
		{nil, "/"}, {[]string{}, "/"}, {[]string{"a"}, "/a"}, {[]string{"a", "b"}, "/a/b"}, {[]string{"a", "b", "c"}, "/a/b/c"},
		{[]string{"é", "\xff"}, "/é/\xff"}, {[]string{"..", "a"}, "/../a"},
		{[]string{""}, "/"}, {[]string{"", ""}, "//"}, {[]string{"a", ""}, "/a/"}, {[]string{"/"}, "//"}, {[]string{"a/b", ".", "\x00"}, "/a/b/./\x00"},
		{slices.Repeat([]string{"ab"}, 2000), strings.Repeat("/ab", 2000)}, {[]string{strings.Repeat("x", 3000)}, "/" + strings.Repeat("x", 3000)},
	} {
		if path := name.Join(x.l); path != x.want {
			t.Errorf("Join(%q): %q, wanted %q", x.l, path, x.want)
		}
	}
}

// P6.4.

func TestSplitOfJoin(t *testing.T) {
	names := []string{"a", "b c", "...", ".a", "a.", "é", "\xff", "\xe2\x82", strings.Repeat("x", 255)}
	for _, l := range rows(names, 4) {
		if len(name.Join(l)) > 1000 {
			splitsNot(t, name.Join(l), api.ErrLong)
			continue
		}
		splits(t, name.Join(l), l, len(l) == 0)
	}
	exact := []string{strings.Repeat("x", 255), strings.Repeat("y", 255), strings.Repeat("z", 255), strings.Repeat("é", 115) + "z"}
	splits(t, name.Join(exact), exact, false)
	splitsNot(t, name.Join(append(exact, "a")), api.ErrLong)
}

// TestSplitIsTheCallersOwn: what is done of one answer is not seen in the next one (R6, R7).
func TestSplitIsTheCallersOwn(t *testing.T) {
	const path = "/a/b/c"
	l, _, _ := name.Split(path)
	for i := range l {
		l[i] = "x"
	}
	splits(t, path, []string{"a", "b", "c"}, false)
	if p := name.Join(l); p != "/x/x/x" || !slices.Equal(l, []string{"x", "x", "x"}) {
		t.Errorf("%q, %q", p, l)
	}
}
