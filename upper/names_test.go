package upper_test

import (
	"fmt"
	"slices"
	"strings"
	"testing"

	"lamella/api"
	"lamella/upper"
)

// P17.3: Link, Remove and Move.

// turned is what becomes of a world by a call that must hold: its names (of each pair the first is what was, the second what is), and what is gone.
type turned struct {
	what string
	call func(u *upper.Upper) api.Errno
	swap [][2]string
	gone []int
}

// turns holds a world behind a call against what becomes of it: all that is told of nodes that are there stays, but for a directory's Size and Links.
func turns(t *testing.T, x turned) {
	t.Helper()
	u := world(t)
	want := strings.Fields(worldNames)
	for _, s := range x.swap {
		if i := slices.Index(want, s[0]); i >= 0 {
			want = slices.Delete(want, i, i+1)
		} else if s[0] != "" {
			t.Errorf("%s: no %q in a world", x.what, s[0])
		}
		if s[1] != "" {
			want = append(want, s[1])
		}
	}
	slices.Sort(want)
	old := world(t)
	if e := x.call(u); e != api.OK {
		t.Errorf("%s: error %d", x.what, e)
	}
	got := strings.Fields(names(t, u))
	slices.Sort(got)
	if !slices.Equal(got, want) {
		t.Errorf("%s: names %q, wanted %q", x.what, got, want)
	}
	for ref := wRoot; ref < wNext; ref++ {
		if ref == wGone || slices.Contains(x.gone, ref) {
			isNoRef(t, x.what, u, ref)
			continue
		}
		tells(t, x.what, u, ref, nodeOf(t, old, ref))
	}
	if got, want := u.Used(), used(t, u); got != want || got.Nodes != wNext-2-len(x.gone) {
		t.Errorf("%s: Used %+v, wanted %+v", x.what, got, want)
	}
	if ref := makes(t, u, wRoot, "fresh", dir()); ref != wNext {
		t.Errorf("%s: the next ref is %d", x.what, ref)
	}
}

// nodeOf is a node as it is told.
func nodeOf(t *testing.T, u *upper.Upper, ref int) api.Node {
	t.Helper()
	s, e := u.Stat(ref)
	holds(t, "Stat", e)
	n := api.Node{Kind: s.Kind, Attr: s.Attr, Opaque: u.Opaque(ref)}
	n.Data, _ = u.Read(ref, 0, 5000)
	n.Target, _ = u.Target(ref)
	n.Xattrs, _ = u.Xattrs(ref)
	return n
}

func TestLink(t *testing.T) {
	for _, x := range []turned{
		{"a file in its directory", func(u *upper.Upper) api.Errno { return u.Link(wDir, "n", wFile) }, [][2]string{{"", "d/n=3"}}, nil},
		{"a file in an empty directory", func(u *upper.Upper) api.Errno { return u.Link(wEmpty, "n", wFile) }, [][2]string{{"", "e/n=3"}}, nil},
		{"a file below", func(u *upper.Upper) api.Errno { return u.Link(wSub, "n", wFile) }, [][2]string{{"", "d/s/n=3"}}, nil},
		{"a deep file, above", func(u *upper.Upper) api.Errno { return u.Link(wRoot, "n", wDeep) }, [][2]string{{"", "n=11"}}, nil},
		{"a symbolic link", func(u *upper.Upper) api.Errno { return u.Link(wDir, "n", wLink) }, [][2]string{{"", "d/n=4"}}, nil},
		{"a White", func(u *upper.Upper) api.Errno { return u.Link(wEmpty, "n", wWhite) }, [][2]string{{"", "e/n=5"}}, nil},
		{"a name of 255 bytes", func(u *upper.Upper) api.Errno { return u.Link(wRoot, strings.Repeat("n", 255), wFile) }, [][2]string{{"", strings.Repeat("n", 255) + "=3"}}, nil},
	} {
		turns(t, x)
	}
}

// TestLinkOfADirectory: of any, into any, itself too.
func TestLinkOfADirectory(t *testing.T) {
	u := world(t)
	for _, d := range []int{wRoot, wDir, wEmpty, wMarks, wSub} {
		for _, ref := range []int{wRoot, wDir, wEmpty, wMarks, wSub} {
			unchanged(t, fmt.Sprintf("Link(%d, new, %d)", d, ref), u, api.ErrIsDir, func() api.Errno { return u.Link(d, "new", ref) })
		}
	}
}

// TestLinkIsOne: what is done of a file by one name is told by each.
func TestLinkIsOne(t *testing.T) {
	u := world(t)
	holds(t, "Write", u.Write(wFile, 1, []byte("ALL")))
	holds(t, "SetAttr", u.SetAttr(wFile, api.Attr{Mode: 9}))
	for path, d := range map[string]int{"f": wDir, "g": wRoot} {
		x, e := u.Look(d, path)
		holds(t, "Look", e)
		tells(t, path, u, x.Ref, attributed(owned(file("hALLo"), 9, 0, 0), xattr("a", "xyz"), xattr("b", "")))
	}
}

func TestRemove(t *testing.T) {
	for _, x := range []turned{
		{"one of two names", func(u *upper.Upper) api.Errno { return u.Remove(wRoot, "g") }, [][2]string{{"g=3", ""}}, nil},
		{"the other one", func(u *upper.Upper) api.Errno { return u.Remove(wDir, "f") }, [][2]string{{"d/f=3", ""}}, nil},
		{"a file", func(u *upper.Upper) api.Errno { return u.Remove(wSub, "t") }, [][2]string{{"d/s/t=11", ""}}, []int{wDeep}},
		{"a symbolic link", func(u *upper.Upper) api.Errno { return u.Remove(wRoot, "l") }, [][2]string{{"l=4", ""}}, []int{wLink}},
		{"a White of several names", func(u *upper.Upper) api.Errno { return u.Remove(wRoot, "w") }, [][2]string{{"w=5", ""}}, nil},
		{"an empty directory", func(u *upper.Upper) api.Errno { return u.Remove(wRoot, "e") }, [][2]string{{"e=6", ""}}, []int{wEmpty}},
		{"a directory of Whites, of which one has other names", func(u *upper.Upper) api.Errno { return u.Remove(wRoot, "m") }, [][2]string{{"m=8", ""}, {"m/x=9", ""}, {"m/y=5", ""}, {"m/z=9", ""}}, []int{wMarks, wMark}},
		{"both names of a file", func(u *upper.Upper) api.Errno { return max(u.Remove(wRoot, "g"), u.Remove(wDir, "f")) }, [][2]string{{"g=3", ""}, {"d/f=3", ""}}, []int{wFile}},
		{"a directory, behind what is in it", func(u *upper.Upper) api.Errno { return max(u.Remove(wSub, "t"), u.Remove(wDir, "s")) }, [][2]string{{"d/s/t=11", ""}, {"d/s=10", ""}}, []int{wDeep, wSub}},
		{"all names of a White, the last one with a directory", func(u *upper.Upper) api.Errno {
			return max(u.Remove(wRoot, "w"), u.Remove(wDir, "v"), u.Remove(wRoot, "m"))
		}, [][2]string{{"w=5", ""}, {"d/v=5", ""}, {"m=8", ""}, {"m/x=9", ""}, {"m/y=5", ""}, {"m/z=9", ""}}, []int{wWhite, wMarks, wMark}},
		{"a name of a mark within", func(u *upper.Upper) api.Errno { return u.Remove(wMarks, "x") }, [][2]string{{"m/x=9", ""}}, nil},
	} {
		turns(t, x)
	}
}

// TestRemoveOfOneMark: a directory with one White alone.
func TestRemoveOfOneMark(t *testing.T) {
	u := upper.New(much)
	makes(t, u, 1, "d", dir())
	makes(t, u, 2, "w", white())
	if got, want := u.Used(), (api.Quota{Nodes: 3, Bytes: 3*64 + 2}); got != want {
		t.Errorf("Used %+v, wanted %+v", got, want)
	}
	holds(t, "Remove", u.Remove(1, "d"))
	isNoRef(t, "the directory", u, 2)
	isNoRef(t, "the mark", u, 3)
	if got := u.Used(); names(t, u) != "" || got != (api.Quota{Nodes: 1, Bytes: 64}) {
		t.Errorf("names %q, Used %+v", names(t, u), got)
	}
}

// TestRemoveOfFull: whatever is within beside marks, whichever of them is listed first.
func TestRemoveOfFull(t *testing.T) {
	u := world(t)
	unchanged(t, "with all kinds", u, api.ErrFull, func() api.Errno { return u.Remove(wRoot, "d") })
	unchanged(t, "with a file", u, api.ErrFull, func() api.Errno { return u.Remove(wDir, "s") })
	for what, n := range map[string]api.Node{"a directory": dir(), "a file": file(""), "a symbolic link": link("x")} {
		for _, s := range []string{"a", "x0", "y", "zz"} {
			u := world(t)
			holds(t, "SetOpaque", u.SetOpaque(wMarks, s == "a"))
			if s == "y" {
				holds(t, "Remove", u.Remove(wMarks, s))
			}
			makes(t, u, wMarks, s, n)
			unchanged(t, "with marks and "+what, u, api.ErrFull, func() api.Errno { return u.Remove(wRoot, "m") })
			holds(t, "Remove", u.Remove(wMarks, s))
			holds(t, "Remove", u.Remove(wRoot, "m"))
		}
		makes(t, u, wEmpty, "n", n)
		unchanged(t, "with "+what+" alone", u, api.ErrFull, func() api.Errno { return u.Remove(wRoot, "e") })
		holds(t, "Remove", u.Remove(wEmpty, "n"))
	}
}

func TestRemoveOfNone(t *testing.T) {
	u := world(t)
	for _, s := range append(oddNames(), "", ".", "..", "/", "a/b", "d/f", "gone", "f", "\x00", strings.Repeat("x", 256)) {
		for _, d := range []int{wRoot, wEmpty, wMarks, wSub} {
			unchanged(t, fmt.Sprintf("Remove(%d, %.10q)", d, s), u, api.ErrNone, func() api.Errno { return u.Remove(d, s) })
		}
		for _, d := range []int{wFile, wLink, wWhite, wMark, wDeep} {
			unchanged(t, fmt.Sprintf("Remove(%d, %.10q)", d, s), u, api.ErrNotDir, func() api.Errno { return u.Remove(d, s) })
		}
	}
	holds(t, "Remove", u.Remove(wSub, "t"))
	unchanged(t, "Remove again", u, api.ErrNone, func() api.Errno { return u.Remove(wSub, "t") })
}

func TestMove(t *testing.T) {
	for _, x := range []turned{
		{"a file in its directory", func(u *upper.Upper) api.Errno { return u.Move(wSub, "t", wSub, "n") }, [][2]string{{"d/s/t=11", "d/s/n=11"}}, nil},
		{"a file into another directory", func(u *upper.Upper) api.Errno { return u.Move(wSub, "t", wEmpty, "t") }, [][2]string{{"d/s/t=11", "e/t=11"}}, nil},
		{"a file up to the root", func(u *upper.Upper) api.Errno { return u.Move(wSub, "t", wRoot, "t") }, [][2]string{{"d/s/t=11", "t=11"}}, nil},
		{"one of two names", func(u *upper.Upper) api.Errno { return u.Move(wRoot, "g", wSub, "n") }, [][2]string{{"g=3", "d/s/n=3"}}, nil},
		{"one of two names beside the other one", func(u *upper.Upper) api.Errno { return u.Move(wRoot, "g", wDir, "g") }, [][2]string{{"g=3", "d/g=3"}}, nil},
		{"a symbolic link", func(u *upper.Upper) api.Errno { return u.Move(wRoot, "l", wMarks, "l") }, [][2]string{{"l=4", "m/l=4"}}, nil},
		{"a White of several names", func(u *upper.Upper) api.Errno { return u.Move(wRoot, "w", wMarks, "w") }, [][2]string{{"w=5", "m/w=5"}}, nil},
		{"an empty directory", func(u *upper.Upper) api.Errno { return u.Move(wRoot, "e", wSub, "n") }, [][2]string{{"e=6", "d/s/n=6"}}, nil},
		{"a directory in its own one", func(u *upper.Upper) api.Errno { return u.Move(wRoot, "d", wRoot, "n") }, [][2]string{{"d=2", "n=2"}, {"d/f=3", "n/f=3"}, {"d/s=10", "n/s=10"}, {"d/s/t=11", "n/s/t=11"}, {"d/v=5", "n/v=5"}}, nil},
		{"a directory with all that is in it", func(u *upper.Upper) api.Errno { return u.Move(wRoot, "d", wEmpty, "n") }, [][2]string{{"d=2", "e/n=2"}, {"d/f=3", "e/n/f=3"}, {"d/s=10", "e/n/s=10"}, {"d/s/t=11", "e/n/s/t=11"}, {"d/v=5", "e/n/v=5"}}, nil},
		{"an opaque directory, up", func(u *upper.Upper) api.Errno { return u.Move(wDir, "s", wRoot, "s") }, [][2]string{{"d/s=10", "s=10"}, {"d/s/t=11", "s/t=11"}}, nil},
		{"a directory out of and back into another one", func(u *upper.Upper) api.Errno {
			return max(u.Move(wDir, "s", wRoot, "s"), u.Move(wRoot, "d", wSub, "d"), u.Move(wSub, "d", wEmpty, "d"), u.Move(wRoot, "s", wDir, "s"))
		}, [][2]string{{"d=2", "e/d=2"}, {"d/f=3", "e/d/f=3"}, {"d/s=10", "e/d/s=10"}, {"d/s/t=11", "e/d/s/t=11"}, {"d/v=5", "e/d/v=5"}}, nil},
	} {
		turns(t, x)
	}
}

// TestMoveInNoDirectory: told ahead of what is wrong with names.
func TestMoveInNoDirectory(t *testing.T) {
	u := world(t)
	for _, d := range []int{wFile, wLink, wWhite, wMark, wDeep} {
		for _, s := range []string{"d", "w", "none", ""} {
			for _, now := range []string{"n", "d", "", "a/b"} {
				unchanged(t, fmt.Sprintf("Move(%d, %q, 1, %q)", d, s, now), u, api.ErrNotDir, func() api.Errno { return u.Move(d, s, wRoot, now) })
				unchanged(t, fmt.Sprintf("Move(1, %q, %d, %q)", s, d, now), u, api.ErrNotDir, func() api.Errno { return u.Move(wRoot, s, d, now) })
				unchanged(t, fmt.Sprintf("Move(%d, %q, %d, %q)", d, s, wFile, now), u, api.ErrNotDir, func() api.Errno { return u.Move(d, s, wFile, now) })
			}
		}
	}
}

// TestMoveOfNone: told ahead of what is wrong with the new name.
func TestMoveOfNone(t *testing.T) {
	u := world(t)
	for _, s := range []string{"none", "", "gone", "a/b", "..", "d/f", strings.Repeat("x", 256)} {
		for _, now := range []string{"n", "d", "", "a/b", strings.Repeat("x", 256), s} {
			for _, to := range []int{wRoot, wDir, wSub} {
				unchanged(t, fmt.Sprintf("Move(1, %.10q, %d, %.10q)", s, to, now), u, api.ErrNone, func() api.Errno { return u.Move(wRoot, s, to, now) })
			}
		}
	}
}

// TestMoveOntoNoName: told ahead of a directory into itself.
func TestMoveOntoNoName(t *testing.T) {
	u := world(t)
	for now, want := range noNames() {
		for _, s := range []string{"d", "g", "w", "e"} {
			for _, to := range []int{wRoot, wDir, wSub, wEmpty} {
				unchanged(t, fmt.Sprintf("Move(1, %q, %d, %.10q)", s, to, now), u, want, func() api.Errno { return u.Move(wRoot, s, to, now) })
			}
		}
	}
}

// TestMoveOntoAnOldName: told ahead of a directory into itself; of its own name, of another one of its file, and of a White too.
func TestMoveOntoAnOldName(t *testing.T) {
	u := world(t)
	for to, l := range map[int][]string{wRoot: {"d", "e", "g", "l", "m", "w"}, wDir: {"f", "s", "v"}, wMarks: {"x", "y", "z"}, wSub: {"t"}} {
		for _, now := range l {
			for _, s := range []string{"d", "e", "g", "l", "m", "w"} {
				unchanged(t, fmt.Sprintf("Move(1, %q, %d, %q)", s, to, now), u, api.ErrExists, func() api.Errno { return u.Move(wRoot, s, to, now) })
			}
		}
	}
}

func TestMoveIntoItself(t *testing.T) {
	u := world(t)
	unchanged(t, "into itself", u, api.ErrLoop, func() api.Errno { return u.Move(wRoot, "d", wDir, "n") })
	unchanged(t, "into what is in it", u, api.ErrLoop, func() api.Errno { return u.Move(wRoot, "d", wSub, "n") })
	unchanged(t, "as its own name", u, api.ErrLoop, func() api.Errno { return u.Move(wRoot, "d", wDir, "d") })
	unchanged(t, "one in another one", u, api.ErrLoop, func() api.Errno { return u.Move(wDir, "s", wSub, "n") })
	unchanged(t, "an empty one", u, api.ErrLoop, func() api.Errno { return u.Move(wRoot, "e", wEmpty, "n") })
	unchanged(t, "one of Whites", u, api.ErrLoop, func() api.Errno { return u.Move(wRoot, "m", wMarks, "n") })
	c := u.Clone()
	unchanged(t, "of a clone", c, api.ErrLoop, func() api.Errno { return c.Move(wRoot, "d", wSub, "n") })
}

// TestMoveAlongAChain: each directory of a chain into each other one, also behind they were turned round.
func TestMoveAlongAChain(t *testing.T) {
	const many = 20
	chain := func() (*upper.Upper, []int) {
		u := upper.New(much)
		refs := []int{1}
		for range many {
			refs = append(refs, makes(t, u, refs[len(refs)-1], "d", dir()))
		}
		return u, refs
	}
	for i := 1; i <= many; i++ {
		for k := 0; k <= many; k++ {
			u, refs := chain()
			want := api.OK
			if k >= i {
				want = api.ErrLoop
			}
			if e := u.Move(refs[i-1], "d", refs[k], "n"); e != want {
				t.Errorf("the directory %d into %d: error %d, wanted %d", i, k, e, want)
			}
		}
	}
	u, refs := chain()
	at := 1
	for i := many; i > 0; i-- { // from the last one on: the chain is turned round
		holds(t, "Move", u.Move(refs[i-1], "d", at, "r"))
		at = refs[i]
	}
	for i := 1; i <= many; i++ {
		for k := 1; k <= many; k++ {
			c := u.Clone()
			from, want := 1, api.OK
			if i < many {
				from = refs[i+1]
			}
			if k <= i {
				want = api.ErrLoop
			}
			if e := c.Move(from, "r", refs[k], "n"); e != want {
				t.Errorf("turned round, the directory %d into %d: error %d, wanted %d", i, k, e, want)
			}
		}
	}
}
