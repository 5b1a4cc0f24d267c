package upper_test

import (
	"fmt"
	"math"
	"testing"

	"lamella/api"
	"lamella/upper"
)

// P17.1: New, Root, and what refs there are.

func TestNew(t *testing.T) {
	for _, q := range []api.Quota{{}, {Nodes: 1, Bytes: 64}, much, {Nodes: -1, Bytes: math.MinInt}, {Nodes: math.MaxInt, Bytes: math.MaxInt}} {
		u := upper.New(q)
		what := fmt.Sprintf("quota %+v", q)
		if u.Root() != 1 {
			t.Errorf("%s: Root %d", what, u.Root())
		}
		tells(t, what, u, 1, owned(dir(), 493, 0, 0))
		if got := names(t, u); got != "" {
			t.Errorf("%s: names %q", what, got)
		}
		if q := u.Used(); q != (api.Quota{Nodes: 1, Bytes: 64}) {
			t.Errorf("%s: Used %+v", what, q)
		}
		for _, ref := range []int{0, -1, 2, 3, math.MaxInt, math.MinInt} {
			isNoRef(t, what, u, ref)
		}
	}
}

// TestNewsAreApart: what is done of one branch is not seen in another one.
func TestNewsAreApart(t *testing.T) {
	a, b := upper.New(much), upper.New(much)
	makes(t, a, 1, "x", file("x"))
	holds(t, "SetAttr", a.SetAttr(1, api.Attr{Mode: 7}))
	holds(t, "SetOpaque", a.SetOpaque(1, true))
	tells(t, "the other one", b, 1, owned(dir(), 493, 0, 0))
	if ref := makes(t, b, 1, "y", dir()); ref != 2 || names(t, a) != "x=2" || names(t, b) != "y=2" {
		t.Errorf("ref %d, names %q and %q", ref, names(t, a), names(t, b))
	}
}

func TestRootStays(t *testing.T) {
	u := world(t)
	for _, s := range []string{"w", "l", "g", "m", "e"} {
		holds(t, "Remove of "+s, u.Remove(wRoot, s))
	}
	holds(t, "SetAttr", u.SetAttr(wRoot, api.Attr{Mode: 1, Uid: 2, Gid: 3}))
	if s, e := u.Stat(1); s != (api.Stat{Kind: api.Dir, Attr: api.Attr{Mode: 1, Uid: 2, Gid: 3}, Links: 1, Size: 1}) || e != api.OK || u.Root() != 1 {
		t.Errorf("Stat %+v, error %d, Root %d", s, e, u.Root())
	}
}

func TestNoRefs(t *testing.T) {
	u := world(t)
	for _, ref := range noRefs() {
		isNoRef(t, "a world", u, ref)
	}
	if got := names(t, u); got != worldNames {
		t.Errorf("names %q", got)
	}
}

// TestNoRefsComeFirst: a ref that is none is told ahead of what is wrong with the other arguments, one that is a directory's or not.
func TestNoRefsComeFirst(t *testing.T) {
	u := world(t)
	for _, ref := range noRefs() {
		for _, other := range []int{wRoot, wDir, wFile, wLink, wWhite, wEmpty} {
			for _, s := range []string{"d", "w", "new", "", "a/b"} {
				unchanged(t, fmt.Sprintf("Link(%d, %q, %d)", other, s, ref), u, api.ErrArg, func() api.Errno { return u.Link(other, s, ref) })
				unchanged(t, fmt.Sprintf("Link(%d, %q, %d)", ref, s, other), u, api.ErrArg, func() api.Errno { return u.Link(ref, s, other) })
				unchanged(t, fmt.Sprintf("Move(%d, %q, %d, d)", other, s, ref), u, api.ErrArg, func() api.Errno { return u.Move(other, s, ref, "d") })
				unchanged(t, fmt.Sprintf("Move(%d, d, %d, %q)", ref, other, s), u, api.ErrArg, func() api.Errno { return u.Move(ref, "d", other, s) })
			}
		}
		for _, n := range []api.Node{dir(), file(""), white(), {}, {Kind: 5}, owned(file("x"), 512, -1, -1)} {
			unchanged(t, fmt.Sprintf("Make(%d, d)", ref), u, api.ErrArg, func() api.Errno {
				_, e := u.Make(ref, "d", n)
				return e
			})
		}
		for _, off := range []int{-1, 0, 4097} {
			unchanged(t, fmt.Sprintf("Read(%d, %d, -1)", ref, off), u, api.ErrArg, func() api.Errno {
				_, e := u.Read(ref, off, -1)
				return e
			})
			unchanged(t, fmt.Sprintf("Write(%d, %d)", ref, off), u, api.ErrArg, func() api.Errno { return u.Write(ref, off, []byte("x")) })
			unchanged(t, fmt.Sprintf("Resize(%d, %d)", ref, off), u, api.ErrArg, func() api.Errno { return u.Resize(ref, off) })
		}
	}
}

// TestRefs: 2, 3, .. as nodes are made, whatever is gone or was refused between.
func TestRefs(t *testing.T) {
	u := upper.New(much)
	for i := range 100 {
		s := fmt.Sprint("n", i)
		n := []api.Node{dir(), file(s), link(s), white()}[i%4]
		if ref := makes(t, u, 1, s, n); ref != i+2 {
			t.Fatalf("%s: ref %d, wanted %d", s, ref, i+2)
		}
		u.Make(1, s, n)
		u.Make(1, "a/b", n)
		u.Make(1, "b", api.Node{})
		u.Make(i+3, "b", n)
		isNoRef(t, "the next one", u, i+3)
		if i%3 == 0 {
			holds(t, "Remove", u.Remove(1, s))
			isNoRef(t, "a gone one", u, i+2)
		}
	}
	for i := range 100 {
		if s := fmt.Sprint("n", i); i%3 != 0 {
			holds(t, "Remove", u.Remove(1, s))
		}
	}
	if ref := makes(t, u, 1, "n0", file("")); ref != 102 || names(t, u) != "n0=102" {
		t.Errorf("ref %d, names %q", ref, names(t, u))
	}
	for ref := 2; ref < 102; ref++ {
		isNoRef(t, "all that are gone", u, ref)
	}
}

// TestRefsOfTheLast: the ref of what was made last does not come again either, of marks that went with a directory too, nor in a clone.
func TestRefsOfTheLast(t *testing.T) {
	u := upper.New(much)
	makes(t, u, 1, "d", dir())
	makes(t, u, 2, "w", white())
	makes(t, u, 2, "v", white())
	holds(t, "Remove", u.Remove(1, "d"))
	c := u.Clone()
	for what, b := range map[string]*upper.Upper{"a branch": u, "its clone": c} {
		if ref := makes(t, b, 1, "d", dir()); ref != 5 {
			t.Errorf("%s: ref %d, wanted 5", what, ref)
		}
		for _, ref := range []int{2, 3, 4, 6} {
			isNoRef(t, what, b, ref)
		}
	}
	makes(t, c, 1, "x", dir())
	if ref := makes(t, u, 1, "y", dir()); ref != 6 {
		t.Errorf("ref %d behind what its clone made, wanted 6", ref)
	}
}
