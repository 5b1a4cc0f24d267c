package upper_test

import (
	"fmt"
	"strings"
	"testing"

	"lamella/api"
	"lamella/upper"
)

// P17.3: Make.

// good are nodes that may be, the greatest ones too.
func good() map[string]api.Node {
	var most []api.Xattr
	for i := range 8 {
		most = append(most, xattr(fmt.Sprint(strings.Repeat("n", 39), i), strings.Repeat("v", 200)))
	}
	return map[string]api.Node{
		"a directory":                        dir(),
		"a directory with all":               attributed(owned(dir(), 511, 65535, 65535), most...),
		"a file":                             file(""),
		"a file with no bytes":               {Kind: api.File, Data: []byte{}, Xattrs: []api.Xattr{}},
		"a file with a byte":                 file("\x00"),
		"a file with all":                    attributed(owned(file(mixed(4096)), 511, 65535, 65535), most...),
		"a symbolic link":                    link("x"),
		"a symbolic link with all":           attributed(owned(link(strings.Repeat("t", 200)), 511, 65535, 65535), most...),
		"a symbolic link to what is no path": link("\x01/\xff//.."),
		"a White":                            white(),
		"a White with lists of nothing":      {Kind: api.White, Data: []byte{}, Xattrs: []api.Xattr{}},
		"an attribute of no value":           attributed(file("x"), xattr("a", "")),
		"an attribute of nil":                attributed(dir(), api.Xattr{Name: "a"}),
		"attributes that rise":               attributed(file("x"), xattr("\x01", "b"), xattr("A", "\x00"), xattr("a", "a"), xattr("a\x01", ""), xattr("\xff", "")),
		"a Mode":                             owned(file("x"), 1, 0, 0),
		"a Uid":                              owned(link("x"), 0, 1, 0),
		"a Gid":                              owned(dir(), 0, 0, 1),
	}
}

// bad are nodes that may not be.
func bad() map[string]api.Node {
	var nine []api.Xattr
	for i := range 9 {
		nine = append(nine, xattr(fmt.Sprint(i), ""))
	}
	l := map[string]api.Node{
		"nothing":                   {},
		"the Kind 5":                {Kind: 5},
		"the Kind -1":               {Kind: -1},
		"the Kind 257":              {Kind: 257},
		"the Kind 2^32 + 1":         {Kind: 1<<32 + 1},
		"a directory with bytes":    {Kind: api.Dir, Data: []byte("x")},
		"a directory with a target": {Kind: api.Dir, Target: "x"},
		"a file with a target":      {Kind: api.File, Target: "x"},
		"a file of 4097 bytes":      file(mixed(4097)),
		"a file of many bytes":      file(mixed(100000)),
		"a link with bytes":         {Kind: api.Link, Target: "x", Data: []byte("x")},
		"a link without a target":   link(""),
		"a link with a nought":      link("a\x00"),
		"a nought ahead":            link("\x00a"),
		"a target of 201 bytes":     link(strings.Repeat("t", 201)),
		"a White with a byte":       {Kind: api.White, Data: []byte{0}},
		"a White with a target":     {Kind: api.White, Target: "x"},
		"a White with a Mode":       owned(white(), 1, 0, 0),
		"a White with a Uid":        owned(white(), 0, 1, 0),
		"a White with a Gid":        owned(white(), 0, 0, 1),
		"a White with an attribute": attributed(white(), xattr("a", "")),
	}
	for kind, n := range map[string]api.Node{"a directory": dir(), "a file": file("x"), "a link": link("x"), "a White": white()} {
		for _, a := range []api.Attr{{Mode: -1}, {Mode: 512}, {Mode: 1 << 32}, {Uid: -1}, {Uid: 65536}, {Gid: -1}, {Gid: 65536}, {Gid: 1 << 40}} {
			l[fmt.Sprintf("%s of %+v", kind, a)] = owned(n, a.Mode, a.Uid, a.Gid)
		}
		for what, x := range map[string][]api.Xattr{
			"nine attributes":                 nine,
			"an attribute without a name":     {xattr("", "a")},
			"an attribute's name too long":    {xattr(strings.Repeat("n", 41), "a")},
			"an attribute's name of a nought": {xattr("a\x00", "a")},
			"an attribute's value too long":   {xattr("a", strings.Repeat("v", 201))},
			"attributes that fall":            {xattr("b", ""), xattr("a", "")},
			"an attribute twice":              {xattr("a", ""), xattr("a", "")},
		} {
			l[kind+" with "+what] = attributed(n, x...)
		}
	}
	return l
}

func TestMake(t *testing.T) {
	for what, n := range good() {
		u := world(t)
		for _, d := range []int{wRoot, wDir, wEmpty, wMarks, wSub} {
			ref := makes(t, u, d, "new", n)
			tells(t, what, u, ref, n)
			if x, e := u.Look(d, "new"); x != (api.Entry{Name: "new", Kind: n.Kind, Ref: ref}) || e != api.OK {
				t.Errorf("%s: Look %+v, error %d", what, x, e)
			}
			if s, _ := u.Stat(ref); s.Links != 1 {
				t.Errorf("%s: Links %d", what, s.Links)
			}
		}
		names(t, u)
		if got, want := u.Used(), used(t, u); got != want {
			t.Errorf("%s: Used %+v, wanted %+v", what, got, want)
		}
	}
}

// TestMakeOfNodes: names and Inos are not looked at, and what is made is not Opaque.
func TestMakeOfNodes(t *testing.T) {
	for what, n := range good() {
		u := world(t)
		n.Names, n.Ino = []string{"x", "a/b", ""}, -7
		n.Opaque = true
		ref := makes(t, u, wDir, "new", n)
		n.Opaque = false
		tells(t, what, u, ref, n)
		if got, want := names(t, u), strings.Replace(worldNames, "d/s=10", "d/new=12 d/s=10", 1); n.Kind != api.Dir && got != want {
			t.Errorf("%s: names %q, wanted %q", what, got, want)
		}
	}
}

func TestMakeOfNone(t *testing.T) {
	u := world(t)
	for what, n := range bad() {
		for _, opaque := range []bool{false, true} {
			n.Opaque = opaque
			unchanged(t, what, u, api.ErrArg, func() api.Errno { return refused(t, u, wDir, "new", n) })
		}
	}
	if ref := makes(t, u, wDir, "new", dir()); ref != wNext {
		t.Errorf("ref %d behind refused nodes, wanted %d", ref, wNext)
	}
}

// refused is Make that must tell an error, with no ref.
func refused(t *testing.T, u *upper.Upper, dir int, s string, n api.Node) api.Errno {
	t.Helper()
	ref, e := u.Make(dir, s, n)
	if ref != 0 || e == api.OK {
		t.Errorf("Make(%d, %.10q): ref %d, error %d", dir, s, ref, e)
	}
	return e
}

// puts are the two calls that put a new name into a directory, of a node that may be and of one that may not.
func puts(t *testing.T, u *upper.Upper) map[string]func(dir int, s string) api.Errno {
	return map[string]func(dir int, s string) api.Errno{
		"Make":                  func(dir int, s string) api.Errno { return refused(t, u, dir, s, file("x")) },
		"Make of a White":       func(dir int, s string) api.Errno { return refused(t, u, dir, s, white()) },
		"Make of what may not":  func(dir int, s string) api.Errno { return refused(t, u, dir, s, api.Node{Kind: 9}) },
		"Link of a file":        func(dir int, s string) api.Errno { return u.Link(dir, s, wFile) },
		"Link of a White":       func(dir int, s string) api.Errno { return u.Link(dir, s, wWhite) },
		"Link of a directory":   func(dir int, s string) api.Errno { return u.Link(dir, s, wDir) },
		"Link of the root":      func(dir int, s string) api.Errno { return u.Link(dir, s, wRoot) },
		"Link of the directory": func(dir int, s string) api.Errno { return u.Link(dir, s, dir) },
	}
}

// TestPutInNoDirectory: told ahead of what is wrong with a name and with a node.
func TestPutInNoDirectory(t *testing.T) {
	u := world(t)
	for what, put := range puts(t, u) {
		for _, d := range []int{wFile, wLink, wWhite, wMark, wDeep} {
			for _, s := range []string{"new", "d", "", "a/b", strings.Repeat("x", 256)} {
				unchanged(t, fmt.Sprintf("%s in %d as %.10q", what, d, s), u, api.ErrNotDir, func() api.Errno { return put(d, s) })
			}
		}
	}
}

// TestPutOfNoName: told ahead of what is wrong with a node, a directory that is linked too.
func TestPutOfNoName(t *testing.T) {
	u := world(t)
	for what, put := range puts(t, u) {
		for s, want := range noNames() {
			for _, d := range []int{wRoot, wDir, wEmpty} {
				unchanged(t, fmt.Sprintf("%s in %d as %.10q", what, d, s), u, want, func() api.Errno { return put(d, s) })
			}
		}
	}
}

// TestPutOfAnOldName: told ahead of what is wrong with a node, a directory that is linked too; of a White too.
func TestPutOfAnOldName(t *testing.T) {
	u := world(t)
	for what, put := range puts(t, u) {
		for d, l := range map[int][]string{wRoot: {"d", "e", "g", "l", "m", "w"}, wDir: {"f", "s", "v"}, wMarks: {"x", "y", "z"}, wSub: {"t"}} {
			for _, s := range l {
				unchanged(t, fmt.Sprintf("%s in %d as %q", what, d, s), u, api.ErrExists, func() api.Errno { return put(d, s) })
			}
		}
	}
}

func TestOddNames(t *testing.T) {
	u := world(t)
	for i, s := range oddNames() {
		ref := makes(t, u, wEmpty, s, file(s))
		holds(t, "Link", u.Link(wRoot, s, ref))
		holds(t, "Move", u.Move(wRoot, s, wSub, s))
		for _, d := range []int{wEmpty, wSub} {
			if x, e := u.Look(d, s); x != (api.Entry{Name: s, Kind: api.File, Ref: wNext + i}) || e != api.OK {
				t.Errorf("Look of %.10q: %+v, error %d", s, x, e)
			}
		}
		if _, e := u.Look(wRoot, s); e != api.ErrNone {
			t.Errorf("Look of %.10q, moved: error %d", s, e)
		}
		holds(t, "Remove", u.Remove(wSub, s))
		tells(t, s, u, ref, file(s))
	}
	names(t, u)
}

// TestSameNames: one name stands in several directories, for another node in each.
func TestSameNames(t *testing.T) {
	u := upper.New(much)
	d := 1
	for i := range 40 { // deeper than a tree may be
		if ref := makes(t, u, d, "f", file(fmt.Sprint(i))); ref != 2+2*i {
			t.Fatalf("ref %d", ref)
		}
		d = makes(t, u, d, "d", dir())
	}
	at := 1
	for i := range 40 {
		f, e := u.Look(at, "f")
		holds(t, "Look", e)
		tells(t, "f", u, f.Ref, file(fmt.Sprint(i)))
		next, e := u.Look(at, "d")
		holds(t, "Look", e)
		at = next.Ref
	}
}
