package branch_test

import (
	"fmt"
	"math"
	"slices"
	"strings"
	"testing"

	"lamella/api"
	"lamella/branch"
	"lamella/build"
	"lamella/image"
	"lamella/mount"
	"lamella/upper"
)

// P18.3: Tree.

// short is a row of nodes in few words: Ino, Kind, names, and what else is not zero.
func short(l []api.Node) string {
	var all []string
	for _, n := range l {
		s := fmt.Sprintf("%d:%d", n.Ino, n.Kind)
		if len(n.Names) > 0 {
			s += " " + strings.Join(n.Names, "/")
		}
		if n.Attr != (api.Attr{}) {
			s += fmt.Sprint(" ", n.Attr.Mode)
		}
		if len(n.Data) > 0 || n.Target != "" {
			s += " " + string(n.Data) + n.Target
		}
		for _, x := range n.Xattrs {
			s += " " + x.Name + "=" + string(x.Value)
		}
		if n.Opaque {
			s += " Opaque"
		}
		all = append(all, s)
	}
	return strings.Join(all, ", ")
}

// TestTreeBehindEachCall is written out: the tree of a branch behind one call after another. The refs are 2 z, 3 b, 4 the White, 5 the symbolic link, 6 a.
func TestTreeBehindEachCall(t *testing.T) {
	u := upper.New(api.Quota{})
	making := func(dir int, s string, n api.Node) func() api.Errno {
		return func() api.Errno { _, e := u.Make(dir, s, n); return e }
	}
	for i, x := range []struct {
		call func() api.Errno
		want string
	}{
		{func() api.Errno { return api.OK }, "1:1 493"},
		{making(1, "z", file("", "zz")), "1:1 493, 2:2 z zz"},
		{making(1, "b", dir("")), "1:1 493, 2:1 b, 3:2 z zz"},
		{making(3, "w", white("")), "1:1 493, 2:1 b, 3:4 b/w, 4:2 z zz"},
		{making(1, "b-", link("", "to")), "1:1 493, 2:1 b, 3:4 b/w, 4:3 b- to, 5:2 z zz"},
		{func() api.Errno { return u.SetOpaque(3, true) }, "1:1 493, 2:1 b Opaque, 3:4 b/w, 4:3 b- to, 5:2 z zz"},
		{func() api.Errno { return u.Link(3, "a", 2) }, "1:1 493, 2:1 b Opaque, 3:2 b/a zz, 4:4 b/w, 5:3 b- to, 3:2 z zz"},
		{func() api.Errno { return u.Link(1, "c", 4) }, "1:1 493, 2:1 b Opaque, 3:2 b/a zz, 4:4 b/w, 5:3 b- to, 4:4 c, 3:2 z zz"},
		{func() api.Errno { return u.SetOpaque(1, true) }, "1:1 493 Opaque, 2:1 b Opaque, 3:2 b/a zz, 4:4 b/w, 5:3 b- to, 4:4 c, 3:2 z zz"},
		{func() api.Errno { return u.Write(2, 1, []byte("Z")) }, "1:1 493 Opaque, 2:1 b Opaque, 3:2 b/a zZ, 4:4 b/w, 5:3 b- to, 4:4 c, 3:2 z zZ"},
		{func() api.Errno { return u.Remove(3, "a") }, "1:1 493 Opaque, 2:1 b Opaque, 3:4 b/w, 4:3 b- to, 3:4 c, 5:2 z zZ"},
		{func() api.Errno { return u.Resize(2, 1) }, "1:1 493 Opaque, 2:1 b Opaque, 3:4 b/w, 4:3 b- to, 3:4 c, 5:2 z z"},
		{func() api.Errno { return u.SetAttr(1, api.Attr{Mode: 7}) }, "1:1 7 Opaque, 2:1 b Opaque, 3:4 b/w, 4:3 b- to, 3:4 c, 5:2 z z"},
		{func() api.Errno { return u.SetAttr(3, api.Attr{Mode: 9}) }, "1:1 7 Opaque, 2:1 b 9 Opaque, 3:4 b/w, 4:3 b- to, 3:4 c, 5:2 z z"},
		{func() api.Errno { return u.SetXattrs(2, []api.Xattr{xattr("x", "y")}) }, "1:1 7 Opaque, 2:1 b 9 Opaque, 3:4 b/w, 4:3 b- to, 3:4 c, 5:2 z z x=y"},
		{func() api.Errno { return u.Move(1, "b", 1, "zz") }, "1:1 7 Opaque, 2:3 b- to, 3:4 c, 4:2 z z x=y, 5:1 zz 9 Opaque, 3:4 zz/w"},
		{func() api.Errno { return u.Move(1, "z", 3, "a") }, "1:1 7 Opaque, 2:3 b- to, 3:4 c, 4:1 zz 9 Opaque, 5:2 zz/a z x=y, 3:4 zz/w"},
		{func() api.Errno { return u.SetOpaque(1, false) }, "1:1 7, 2:3 b- to, 3:4 c, 4:1 zz 9 Opaque, 5:2 zz/a z x=y, 3:4 zz/w"},
		{func() api.Errno { return u.Remove(3, "a") }, "1:1 7, 2:3 b- to, 3:4 c, 4:1 zz 9 Opaque, 3:4 zz/w"},
		{func() api.Errno { return u.Remove(1, "zz") }, "1:1 7, 2:3 b- to, 3:4 c"},
		{func() api.Errno { return u.Remove(1, "c") }, "1:1 7, 2:3 b- to"},
		{making(1, "a", dir("")), "1:1 7, 2:1 a, 3:3 b- to"},
		{func() api.Errno { return u.Remove(1, "b-") }, "1:1 7, 2:1 a"},
		{func() api.Errno { return u.Remove(1, "a") }, "1:1 7"},
	} {
		holds(t, fmt.Sprint("call ", i), x.call())
		for what, b := range map[string]image.Branch{"the branch": u, "a clone": u.Clone()} {
			if l, e := branch.Tree(b); short(l) != x.want || e != api.OK {
				t.Errorf("%s behind call %d: error %d, %s\nwanted %s", what, i, e, short(l), x.want)
			}
		}
	}
}

// slowTree is an upper branch's tree, gathered level by level, and put in order at the end.
func slowTree(u *upper.Upper) []api.Node {
	l := []api.Node{{Ino: u.Root()}}
	for i := 0; i < len(l); i++ {
		n := &l[i]
		ref, names := n.Ino, n.Names
		s, _ := u.Stat(ref)
		n.Kind, n.Attr, n.Opaque = s.Kind, s.Attr, u.Opaque(ref)
		n.Data, _ = u.Read(ref, 0, math.MaxInt)
		n.Target, _ = u.Target(ref)
		n.Xattrs, _ = u.Xattrs(ref)
		entries, _ := u.List(ref)
		for _, x := range entries {
			l = append(l, api.Node{Names: slices.Concat(names, []string{x.Name}), Ino: x.Ref})
		}
	}
	return canonical(l)
}

// TestTreeOfRowsOfCalls: a branch that is new, or was filled, is changed step by step; some of its refs are gone then. What its tree may be is filled again, and the same.
func TestTreeOfRowsOfCalls(t *testing.T) {
	whites, opaques, gone, again := 0, 0, 0, 0
	for row := range 300 {
		u := upper.New(api.Quota{Nodes: row % 7, Bytes: row})
		if row%2 == 1 {
			u = filled(t, "any tree", anyTree(row))
		}
		c := chance(row)
		for i := range 60 {
			call := step(&c, u, 8+i/4)
			what := fmt.Sprintf("row %d, behind step %d, %s", row, i, call)
			want := slowTree(u)
			l := tells(t, what, u, want)
			e := branch.Check(l)
			if want := slowCheck(l); e != want || e != api.OK && e != api.ErrLinks {
				t.Fatalf("%s: Check: error %d, wanted %d, of\n%s", what, e, want, text(l))
			}
			if e == api.OK {
				again++
				tells(t, what+", filled again", filled(t, what, l), l)
			}
			for _, n := range l {
				if n.Kind == api.White {
					whites++
				}
				if n.Opaque {
					opaques++
				}
			}
			if _, e := u.Stat(u.Used().Nodes + 1); e == api.OK {
				gone++ // there are fewer nodes than that, so one ahead of it is gone
			}
		}
	}
	if whites < 1000 || opaques < 1000 || gone < 500 || again < 1000 {
		t.Errorf("%d Whites, %d Opaque, %d with refs that are gone, %d filled again", whites, opaques, gone, again)
	}
}

func TestTreeOfARootAlone(t *testing.T) {
	u := upper.New(api.Quota{})
	root := attr(one(-1, dir("")), 493, 0, 0)
	tells(t, "a new branch", u, []api.Node{root})
	u.SetOpaque(1, true)
	tells(t, "a new branch, Opaque", u, []api.Node{opaque(root)})
	u.Make(1, "w", white(""))
	u.Remove(1, "w")
	tells(t, "a branch from which a White is gone", u, []api.Node{opaque(root)})
}

// TestTreeOfMore: Tree tells what the branch has, and holds it against no bounds: these are Check's.
func TestTreeOfMore(t *testing.T) {
	u := upper.New(much)
	at := 1
	for i := range 40 {
		ref, e := u.Make(at, "d", dir(""))
		holds(t, "Make", e)
		_, e = u.Make(at, "w", white(""))
		holds(t, "Make", e)
		holds(t, "SetOpaque", u.SetOpaque(ref, i%3 == 0))
		at = ref
	}
	if e := branch.Check(tells(t, "40 names", u, slowTree(u))); e != api.ErrDeep {
		t.Errorf("40 names: Check: error %d", e)
	}
	u = upper.New(much)
	for i := range 1500 {
		_, e := u.Make(1, fmt.Sprint(i), []api.Node{white(""), opaque(dir("")), file("", "x")}[i%3])
		holds(t, "Make", e)
	}
	if e := branch.Check(tells(t, "1501 nodes", u, slowTree(u))); e != api.ErrBig {
		t.Errorf("1501 nodes: Check: error %d", e)
	}
	u = upper.New(much)
	ref, _ := u.Make(1, "w", white(""))
	holds(t, "Link", u.Link(1, "v", ref))
	want := []api.Node{attr(one(-1, dir("")), 493, 0, 0), one(-2, white("v")), one(-2, white("w"))}
	if e := branch.Check(tells(t, "a White of two names", u, want)); e != api.ErrLinks {
		t.Errorf("a White of two names: Check: error %d", e)
	}
}

// Of another branch Tree is image.Tree.

func opened(t *testing.T, what string, l []api.Node) *mount.Image {
	t.Helper()
	m, e := image.Open(l)
	if m == nil || e != api.OK {
		t.Fatalf("%s: Open: error %d", what, e)
	}
	return m
}

func TestTreeOfImages(t *testing.T) {
	for what, l := range plainTrees() {
		m := opened(t, what, l)
		got := tells(t, what, m, canonical(l))
		if want, e := image.Tree(m); !sameNodes(got, want) || e != api.OK {
			t.Errorf("%s: Tree is not image.Tree: error %d\n%s", what, e, text(want))
		}
		tells(t, what+", filled", filled(t, what, got), got)
	}
}

// refuses is of a branch that something of can't be told.
func refuses(t *testing.T, what string, b image.Branch, want api.Errno) {
	t.Helper()
	if l, e := branch.Tree(b); len(l) != 0 || e != want {
		t.Errorf("%s: Tree: %d nodes, error %d; wanted none, error %d", what, len(l), e, want)
	}
}

// TestTreeOfABrokenImage: of a file's bytes that can't be read the error is told.
func TestTreeOfABrokenImage(t *testing.T) {
	b, e := build.Build(rooted(file("a", "x"), file("b", mixed(1, 128)), file("c", "")))
	holds(t, "Build", e)
	b[api.SuperSize+20] ^= 16 // within b's block
	m, e := mount.Mount(b)
	holds(t, "Mount", e)
	refuses(t, "an image with a turned byte", m, api.ErrIO)
}

// wrapped has all that an upper branch has, but is none.
type wrapped struct{ *upper.Upper }

// failing is a branch that tells an error of one call.
type failing struct {
	wrapped
	call string
	e    api.Errno
}

func (f failing) error(call string, e api.Errno) api.Errno {
	if f.call == call {
		return f.e
	}
	return e
}

func (f failing) Stat(ref int) (api.Stat, api.Errno) {
	s, e := f.wrapped.Stat(ref)
	return s, f.error("Stat", e)
}

func (f failing) List(ref int) ([]api.Entry, api.Errno) {
	l, e := f.wrapped.List(ref)
	return l, f.error("List", e)
}

func (f failing) Read(ref, off, n int) ([]byte, api.Errno) {
	b, e := f.wrapped.Read(ref, off, n)
	return b, f.error("Read", e)
}

func (f failing) Target(ref int) (string, api.Errno) {
	s, e := f.wrapped.Target(ref)
	return s, f.error("Target", e)
}

func (f failing) Xattrs(ref int) ([]api.Xattr, api.Errno) {
	l, e := f.wrapped.Xattrs(ref)
	return l, f.error("Xattrs", e)
}

// TestTreeOfOtherBranches: nothing of them is told to be Opaque, and their errors are told.
func TestTreeOfOtherBranches(t *testing.T) {
	for what, l := range trees() {
		u := filled(t, what, l)
		want := canonical(l)
		for i := range want {
			want[i].Opaque = false
		}
		for kind, b := range map[string]image.Branch{"an upper branch in something": wrapped{u}, "the address of that": &wrapped{u}, "one that tells no errors": failing{wrapped{u}, "", 0}} {
			got := tells(t, what+", "+kind, b, want)
			if image, e := image.Tree(b); !sameNodes(got, image) || e != api.OK {
				t.Errorf("%s, %s: Tree is not image.Tree", what, kind)
			}
		}
		for _, call := range []string{"Stat", "List", "Xattrs"} {
			for _, e := range []api.Errno{api.ErrIO, api.ErrArg, 99, -1} {
				refuses(t, what+", an error of "+call, failing{wrapped{u}, call, e}, e)
			}
		}
	}
	u := filled(t, "a world", world())
	refuses(t, "an error of Read", failing{wrapped{u}, "Read", api.ErrIO}, api.ErrIO)
	refuses(t, "an error of Target", failing{wrapped{u}, "Target", 77}, 77)
}
