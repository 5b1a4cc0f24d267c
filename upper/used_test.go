package upper_test

import (
	"math"
	"strings"
	"testing"

	"lamella/api"
	"lamella/upper"
)

// P17.5: Used, Over and Clone.

// TestUsed: what each of a row of calls costs, or gives back.
func TestUsed(t *testing.T) {
	u := upper.New(much)
	made := func(dir int, s string, n api.Node) func() api.Errno {
		return func() api.Errno {
			_, e := u.Make(dir, s, n)
			return e
		}
	}
	want := api.Quota{Nodes: 1, Bytes: 64}
	for _, x := range []struct {
		what         string
		call         func() api.Errno
		nodes, bytes int
	}{
		{"nothing", func() api.Errno { return api.OK }, 0, 0},
		{"a directory d", made(1, "d", dir()), 1, 64 + 1},
		{"a file", made(2, "file", file("hello")), 1, 64 + 4 + 5},
		{"a symbolic link", made(2, "li", link("target")), 1, 64 + 2 + 6},
		{"a White", made(2, "hidden", white()), 1, 64 + 6},
		{"attributes", made(1, "x", attributed(file("1"), xattr("ab", "cde"), xattr("f", ""))), 1, 64 + 1 + 1 + 5 + 1},
		{"a name of 255 bytes", made(1, strings.Repeat("n", 255), file("")), 1, 64 + 255},
		{"a second name", func() api.Errno { return u.Link(1, "second", 3) }, 0, 6},
		{"a third name", func() api.Errno { return u.Link(2, "third", 3) }, 0, 5},
		{"a second name of a White", func() api.Errno { return u.Link(1, "white", 5) }, 0, 5},
		{"a longer name", func() api.Errno { return u.Move(1, "second", 2, "longer name") }, 0, 11 - 6},
		{"a shorter name", func() api.Errno { return u.Move(2, "longer name", 2, "s") }, 0, 1 - 11},
		{"a directory's other name", func() api.Errno { return u.Move(1, "d", 1, "directory") }, 0, 9 - 1},
		{"bytes in the place of others", func() api.Errno { return u.Write(3, 0, []byte("HELLO")) }, 0, 0},
		{"bytes behind", func() api.Errno { return u.Write(3, 5, []byte("!!")) }, 0, 2},
		{"bytes far behind", func() api.Errno { return u.Write(3, 100, []byte("x")) }, 0, 101 - 7},
		{"no bytes", func() api.Errno { return u.Write(3, 4000, nil) }, 0, 0},
		{"all bytes", func() api.Errno { return u.Resize(3, 4096) }, 0, 4096 - 101},
		{"few bytes", func() api.Errno { return u.Resize(3, 3) }, 0, 3 - 4096},
		{"a Mode", func() api.Errno { return u.SetAttr(3, api.Attr{Mode: 511, Uid: 1, Gid: 1}) }, 0, 0},
		{"attributes", func() api.Errno { return u.SetXattrs(3, []api.Xattr{xattr("a", "1234"), xattr("bcd", "")}) }, 0, 8},
		{"other attributes", func() api.Errno { return u.SetXattrs(3, []api.Xattr{xattr("a", "12")}) }, 0, 3 - 8},
		{"attributes of the root", func() api.Errno { return u.SetXattrs(1, []api.Xattr{xattr("r", "oot")}) }, 0, 4},
		{"an opaque directory", func() api.Errno { return u.SetOpaque(2, true) }, 0, 0},
		{"one that is not", func() api.Errno { return u.SetOpaque(2, false) }, 0, 0},
		{"one name gone", func() api.Errno { return u.Remove(2, "s") }, 0, -1},
		{"another one", func() api.Errno { return u.Remove(2, "third") }, 0, -5},
		{"the last one", func() api.Errno { return u.Remove(2, "file") }, -1, -4 - 64 - 3 - 3},
		{"a symbolic link gone", func() api.Errno { return u.Remove(2, "li") }, -1, -2 - 64 - 6},
		{"a directory with a mark that has another name", func() api.Errno { return u.Remove(1, "directory") }, -1, -9 - 64 - 6},
		{"the mark", func() api.Errno { return u.Remove(1, "white") }, -1, -5 - 64},
		{"a file with attributes", func() api.Errno { return u.Remove(1, "x") }, -1, -1 - 64 - 1 - 6},
		{"the long name", func() api.Errno { return u.Remove(1, strings.Repeat("n", 255)) }, -1, -255 - 64},
		{"no attributes of the root", func() api.Errno { return u.SetXattrs(1, nil) }, 0, -4},
	} {
		holds(t, x.what, x.call())
		want.Nodes += x.nodes
		want.Bytes += x.bytes
		if got := u.Used(); got != want || got != used(t, u) {
			t.Errorf("%s: Used %+v, wanted %+v", x.what, got, want)
		}
	}
	if want != (api.Quota{Nodes: 1, Bytes: 64}) {
		t.Errorf("%+v at the end", want)
	}
}

func TestUsedOfAWorld(t *testing.T) {
	u := world(t)
	letters := len("d") + len("of"+"d") + len("f"+"hello"+"a"+"xyz"+"b") + len("l"+"d/f") + len("w") + len("e") + len("m") + len("x") + len("s") + len("t"+"deep") + len("g") + len("v") + len("y") + len("z")
	if got, want := u.Used(), (api.Quota{Nodes: 10, Bytes: 640 + letters}); got != want {
		t.Errorf("Used %+v, wanted %+v", got, want)
	}
	for range 3 {
		if got := u.Used(); got != used(t, u) {
			t.Errorf("Used %+v, and told is %+v", got, used(t, u))
		}
	}
}

func TestOver(t *testing.T) {
	fill := func(q api.Quota) *upper.Upper {
		u := upper.New(q)
		makes(t, u, 1, "ab", attributed(file("cde"), xattr("f", "gh")))
		makes(t, u, 1, "i", white())
		return u
	}
	const nodes, bytes = 3, 3*64 + 9
	for q, want := range map[api.Quota]bool{
		{Nodes: nodes, Bytes: bytes}:             false,
		{Nodes: nodes + 1, Bytes: bytes + 1}:     false,
		{Nodes: nodes - 1, Bytes: bytes}:         true,
		{Nodes: nodes, Bytes: bytes - 1}:         true,
		{Nodes: nodes - 1, Bytes: bytes - 1}:     true,
		{Nodes: nodes - 1, Bytes: math.MaxInt}:   true,
		{Nodes: math.MaxInt, Bytes: bytes - 1}:   true,
		{Nodes: math.MaxInt, Bytes: math.MaxInt}: false,
		{}:                                       true,
		{Nodes: -1, Bytes: bytes}:                true,
		{Nodes: nodes, Bytes: -1}:                true,
		{Nodes: math.MinInt, Bytes: math.MaxInt}: true,
		{Nodes: math.MaxInt, Bytes: math.MinInt}: true,
		{Nodes: nodes, Bytes: math.MaxInt}:       false,
		{Nodes: math.MaxInt, Bytes: bytes}:       false,
	} {
		if got := fill(q).Over(); got != want {
			t.Errorf("quota %+v: Over %v", q, got)
		}
	}
}

// TestOverRefusesNothing: all goes on above a quota, and what is given back counts.
func TestOverRefusesNothing(t *testing.T) {
	u := upper.New(api.Quota{Nodes: 2, Bytes: 130})
	over := func(what string, want bool) {
		t.Helper()
		if u.Over() != want || u.Used() != used(t, u) {
			t.Errorf("%s: Over %v, Used %+v", what, u.Over(), u.Used())
		}
	}
	over("a root", false)
	makes(t, u, 1, "f", file(""))
	over("129 bytes", false)
	holds(t, "Write", u.Write(2, 0, []byte("x")))
	over("130 bytes", false)
	holds(t, "Write", u.Write(2, 1, []byte("y")))
	over("131 bytes", true)
	holds(t, "Resize", u.Resize(2, 4096))
	makes(t, u, 1, "g", dir())
	makes(t, u, 3, "h", white())
	holds(t, "SetXattrs", u.SetXattrs(2, []api.Xattr{xattr("a", "b")}))
	holds(t, "Link", u.Link(3, "i", 2))
	over("more and more", true)
	holds(t, "SetXattrs", u.SetXattrs(2, nil))
	holds(t, "Remove", u.Remove(1, "f"))
	holds(t, "Resize", u.Resize(2, 0))
	over("three nodes too many", true)
	holds(t, "Remove", u.Remove(3, "i"))
	over("a directory of a mark", true)
	holds(t, "Remove", u.Remove(1, "g"))
	over("a root again", false)
	makes(t, u, 1, "ab", dir())
	over("130 bytes again", false)
	if c := u.Clone(); c.Over() || u.Over() {
		t.Error("a clone has its branch's quota")
	}
	holds(t, "Move", u.Move(1, "ab", 1, "abc"))
	over("a longer name", true)
	if c := u.Clone(); !c.Over() {
		t.Error("a clone has its branch's quota")
	}
}

// changes are calls on a world that hold, each of which changes something.
func changes() map[string]func(u *upper.Upper) api.Errno {
	return map[string]func(u *upper.Upper) api.Errno{
		"Make":                func(u *upper.Upper) api.Errno { _, e := u.Make(wEmpty, "n", file("new")); return e },
		"Make in the root":    func(u *upper.Upper) api.Errno { _, e := u.Make(wRoot, "n", dir()); return e },
		"Link":                func(u *upper.Upper) api.Errno { return u.Link(wSub, "n", wFile) },
		"Link of a White":     func(u *upper.Upper) api.Errno { return u.Link(wEmpty, "n", wWhite) },
		"Remove":              func(u *upper.Upper) api.Errno { return u.Remove(wSub, "t") },
		"Remove of a name":    func(u *upper.Upper) api.Errno { return u.Remove(wRoot, "g") },
		"Remove with marks":   func(u *upper.Upper) api.Errno { return u.Remove(wRoot, "m") },
		"Move":                func(u *upper.Upper) api.Errno { return u.Move(wSub, "t", wRoot, "n") },
		"Move of a directory": func(u *upper.Upper) api.Errno { return u.Move(wDir, "s", wRoot, "n") },
		"Write":               func(u *upper.Upper) api.Errno { return u.Write(wFile, 1, []byte("E")) },
		"Write behind":        func(u *upper.Upper) api.Errno { return u.Write(wFile, 10, []byte("E")) },
		"Resize to less":      func(u *upper.Upper) api.Errno { return u.Resize(wFile, 3) },
		"Resize to more":      func(u *upper.Upper) api.Errno { return u.Resize(wFile, 300) },
		"SetAttr":             func(u *upper.Upper) api.Errno { return u.SetAttr(wFile, api.Attr{Mode: 3}) },
		"SetXattrs": func(u *upper.Upper) api.Errno {
			return u.SetXattrs(wFile, []api.Xattr{xattr("a", "XYZ"), xattr("b", "")})
		},
		"SetXattrs to none": func(u *upper.Upper) api.Errno { return u.SetXattrs(wDir, nil) },
		"SetOpaque":         func(u *upper.Upper) api.Errno { return u.SetOpaque(wDir, true) },
		"SetOpaque off":     func(u *upper.Upper) api.Errno { return u.SetOpaque(wSub, false) },
	}
}

func TestClone(t *testing.T) {
	want := all(world(t), wNext+2)
	for what, change := range changes() {
		u := world(t)
		c := u.Clone()
		if all(u, wNext+2) != want || all(c, wNext+2) != want {
			t.Errorf("a clone is\n%sof\n%s", all(c, wNext+2), want)
		}
		holds(t, what, change(c))
		behind := all(c, wNext+2)
		if all(u, wNext+2) != want || behind == want {
			t.Errorf("%s of a clone: its branch is\n%sand was\n%s", what, all(u, wNext+2), want)
		}
		c = u.Clone()
		holds(t, what, change(u))
		if all(c, wNext+2) != want || all(u, wNext+2) != behind {
			t.Errorf("%s: a clone is\n%sand was\n%s", what, all(c, wNext+2), want)
		}
		names(t, u)
		names(t, c)
	}
}

// TestClonesOfClones: of three, each change is done of one.
func TestClonesOfClones(t *testing.T) {
	want := all(world(t), wNext+2)
	for one, change := range changes() {
		for two, other := range changes() {
			u := world(t)
			c := u.Clone()
			d := c.Clone()
			holds(t, one, change(u))
			holds(t, two, other(d))
			if all(c, wNext+2) != want {
				t.Errorf("%s, %s: the clone between is\n%s", one, two, all(c, wNext+2))
			}
			a, b := world(t), world(t)
			holds(t, one, change(a))
			holds(t, two, other(b))
			if all(a, wNext+2) != all(u, wNext+2) || all(b, wNext+2) != all(d, wNext+2) {
				t.Errorf("%s, %s: one is seen by the other", one, two)
			}
		}
	}
}
