package upper_test

import (
	"bytes"
	"fmt"
	"math"
	"slices"
	"strings"
	"testing"

	"lamella/api"
	"lamella/image"
	"lamella/upper"
)

// An upper branch tells of a tree as an image does.
var _ image.Branch = (*upper.Upper)(nil)

// much is a quota that no test comes to.
var much = api.Quota{Nodes: 1 << 20, Bytes: 1 << 30}

func dir() api.Node               { return api.Node{Kind: api.Dir} }
func file(data string) api.Node   { return api.Node{Kind: api.File, Data: []byte(data)} }
func link(target string) api.Node { return api.Node{Kind: api.Link, Target: target} }
func white() api.Node             { return api.Node{Kind: api.White} }
func xattr(s, v string) api.Xattr { return api.Xattr{Name: s, Value: []byte(v)} }
func owned(n api.Node, mode, uid, gid int) api.Node {
	n.Attr = api.Attr{Mode: mode, Uid: uid, Gid: gid}
	return n
}

func attributed(n api.Node, l ...api.Xattr) api.Node {
	n.Xattrs = l
	return n
}

// makes is Make that must hold.
func makes(t *testing.T, u *upper.Upper, dir int, s string, n api.Node) int {
	t.Helper()
	ref, e := u.Make(dir, s, n)
	if e != api.OK || ref < 2 {
		t.Fatalf("Make(%d, %.20q, a node of the kind %d): ref %d, error %d", dir, s, n.Kind, ref, e)
	}
	return ref
}

// holds is of a call that must hold.
func holds(t *testing.T, what string, e api.Errno) {
	t.Helper()
	if e != api.OK {
		t.Fatalf("%s: error %d", what, e)
	}
}

// The refs of a world's nodes.
const (
	wRoot  = iota + 1
	wDir   // d: a directory with more
	wFile  // d/f and g: a file of two names
	wLink  // l: a symbolic link
	wWhite // w and d/v: a White of two names
	wEmpty // e: a directory without entries
	wGone  // was a file
	wMarks // m: a directory that has Whites alone
	wMark  // m/x and m/z: one that has all of its names there
	wSub   // d/s: a directory in a directory
	wDeep  // d/s/t: a file
	wNext  // none yet
)

// worldNames are the names of a world with their refs.
const worldNames = "d=2 d/f=3 d/s=10 d/s/t=11 d/v=5 e=6 g=3 l=4 m=8 m/x=9 m/y=5 m/z=9 w=5"

// world has a node of each kind, and things of several names.
func world(t *testing.T) *upper.Upper {
	t.Helper()
	u := upper.New(much)
	makes(t, u, wRoot, "d", attributed(owned(dir(), 448, 5, 7), xattr("of", "d")))
	makes(t, u, wDir, "f", attributed(owned(file("hello"), 420, 1, 2), xattr("a", "xyz"), xattr("b", "")))
	makes(t, u, wRoot, "l", owned(link("d/f"), 511, 3, 4))
	makes(t, u, wRoot, "w", white())
	makes(t, u, wRoot, "e", dir())
	makes(t, u, wRoot, "gone", file("gone"))
	makes(t, u, wRoot, "m", dir())
	makes(t, u, wMarks, "x", white())
	makes(t, u, wDir, "s", owned(dir(), 1, 0, 0))
	makes(t, u, wSub, "t", file("deep"))
	holds(t, "Link of the file", u.Link(wRoot, "g", wFile))
	holds(t, "Link of the White", u.Link(wDir, "v", wWhite))
	holds(t, "Link of the White among marks", u.Link(wMarks, "y", wWhite))
	holds(t, "Link of the mark", u.Link(wMarks, "z", wMark))
	holds(t, "Remove", u.Remove(wRoot, "gone"))
	holds(t, "SetOpaque", u.SetOpaque(wSub, true))
	return u
}

// names are all names of a branch with their refs, held against all that List, Look and Stat tell of them.
func names(t *testing.T, u *upper.Upper) string {
	t.Helper()
	links := map[int]int{u.Root(): 1}
	l := namesIn(t, u, u.Root(), "", links)
	for ref, n := range links {
		if s, e := u.Stat(ref); s.Links != n || e != api.OK {
			t.Errorf("ref %d: Links %d, error %d; it has %d names", ref, s.Links, e, n)
		}
	}
	return strings.Join(l, " ")
}

func namesIn(t *testing.T, u *upper.Upper, ref int, path string, links map[int]int) []string {
	t.Helper()
	list, e := u.List(ref)
	s, f := u.Stat(ref)
	if e != api.OK || f != api.OK || s.Size != len(list) {
		t.Errorf("%q: List %v, Size %d, errors %d, %d", path, list, s.Size, e, f)
	}
	var l []string
	for i, x := range list {
		if i > 0 && list[i-1].Name >= x.Name {
			t.Errorf("%q: names that do not rise: %v", path, list)
		}
		if y, e := u.Look(ref, x.Name); y != x || e != api.OK {
			t.Errorf("%q: Look of %+v: %+v, error %d", path, x, y, e)
		}
		if s, e := u.Stat(x.Ref); s.Kind != x.Kind || e != api.OK {
			t.Errorf("%q: %+v has the kind %d, error %d", path, x, s.Kind, e)
		}
		links[x.Ref]++
		l = append(l, fmt.Sprintf("%s%s=%d", path, x.Name, x.Ref))
		if x.Kind == api.Dir {
			l = append(l, namesIn(t, u, x.Ref, path+x.Name+"/", links)...)
		}
	}
	return l
}

// used is what a branch takes by what it tells.
func used(t *testing.T, u *upper.Upper) api.Quota {
	t.Helper()
	var q api.Quota
	seen := map[int]struct{}{}
	var visit func(ref int)
	visit = func(ref int) {
		if _, found := seen[ref]; found {
			return
		}
		seen[ref] = struct{}{}
		q.Nodes++
		q.Bytes += 64
		b, _ := u.Read(ref, 0, math.MaxInt)
		target, _ := u.Target(ref)
		q.Bytes += len(b) + len(target)
		x, _ := u.Xattrs(ref)
		for _, x := range x {
			q.Bytes += len(x.Name) + len(x.Value)
		}
		l, _ := u.List(ref)
		for _, x := range l {
			q.Bytes += len(x.Name)
			visit(x.Ref)
		}
	}
	visit(u.Root())
	return q
}

// all is all that a branch tells, of refs up to last, as text.
func all(u *upper.Upper, last int) string {
	var s strings.Builder
	for ref := -1; ref <= last; ref++ {
		stat, e := u.Stat(ref)
		list, f := u.List(ref)
		b, g := u.Read(ref, 0, 5000)
		target, h := u.Target(ref)
		x, i := u.Xattrs(ref)
		fmt.Fprintf(&s, "%d: %+v %v %q %q %q %v %v\n", ref, stat, list, b, target, x, u.Opaque(ref), []api.Errno{e, f, g, h, i})
	}
	fmt.Fprintf(&s, "%d %+v %v\n", u.Root(), u.Used(), u.Over())
	return s.String()
}

// unchanged is of a call that must tell an error, and change nothing.
func unchanged(t *testing.T, what string, u *upper.Upper, want api.Errno, call func() api.Errno) {
	t.Helper()
	before := all(u, wNext+3)
	if e := call(); e != want {
		t.Errorf("%s: error %d, wanted %d", what, e, want)
	}
	if after := all(u, wNext+3); after != before {
		t.Errorf("%s: error %d, but it was\n%sand is\n%s", what, want, before, after)
	}
}

// isNoRef is of one that is no node's: each call tells ErrArg, ahead of all other errors, and nothing beside it; nothing changes.
func isNoRef(t *testing.T, what string, u *upper.Upper, ref int) {
	t.Helper()
	before := all(u, wNext+3)
	s, e1 := u.Stat(ref)
	x, e2 := u.Look(ref, "a")
	l, e3 := u.List(ref)
	b, e4 := u.Read(ref, 0, 1)
	target, e5 := u.Target(ref)
	a, e6 := u.Xattrs(ref)
	r, e7 := u.Make(ref, "fresh", dir())
	bad, e8 := u.Make(ref, "a/b", api.Node{Kind: 5})
	if s != (api.Stat{}) || x != (api.Entry{}) || len(l)+len(b)+len(target)+len(a)+r+bad != 0 || u.Opaque(ref) {
		t.Errorf("%s: ref %d: %v %v %v %q %q %v %d %d beside an error, Opaque %v", what, ref, s, x, l, b, target, a, r, bad, u.Opaque(ref))
	}
	errors := []api.Errno{
		e1, e2, e3, e4, e5, e6, e7, e8,
		u.Link(ref, "fresh", 1), u.Link(1, "fresh", ref), u.Link(ref, "", ref), u.Link(1, "a/b", ref), u.Link(1, strings.Repeat("x", 256), ref),
		u.Remove(ref, "a"), u.Remove(ref, ""),
		u.Move(ref, "a", 1, "fresh"), u.Move(1, "a", ref, "fresh"), u.Move(ref, "", ref, ""), u.Move(1, "", ref, "a/b"),
		u.Write(ref, 0, nil), u.Write(ref, 5000, nil), u.Write(ref, 0, make([]byte, 5000)),
		u.Resize(ref, 0), u.Resize(ref, 5000),
		u.SetAttr(ref, api.Attr{}), u.SetXattrs(ref, nil), u.SetOpaque(ref, true), u.SetOpaque(ref, false),
	}
	for i, e := range errors {
		if e != api.ErrArg {
			t.Errorf("%s: ref %d: call %d: error %d, wanted %d", what, ref, i, e, api.ErrArg)
		}
	}
	if after := all(u, wNext+3); after != before {
		t.Errorf("%s: ref %d: it was\n%sand is\n%s", what, ref, before, after)
	}
}

// noRefs are refs that are no node's in a world.
func noRefs() []int {
	return []int{0, -1, -2, wGone, wNext, wNext + 1, 1 << 32, 1<<32 + 1, math.MaxInt, math.MinInt, math.MinInt + 1}
}

// noNames are texts that are no name, with what name.Valid tells of them.
func noNames() map[string]api.Errno {
	return map[string]api.Errno{
		"": api.ErrName, ".": api.ErrName, "..": api.ErrName, "/": api.ErrName, "a/": api.ErrName, "/a": api.ErrName, "a/b": api.ErrName, "\x00": api.ErrName, "a\x00b": api.ErrName, "\xff/": api.ErrName,
		strings.Repeat("x", 256): api.ErrLong, strings.Repeat("/", 256): api.ErrLong, strings.Repeat("x", 100000): api.ErrLong,
	}
}

// oddNames are names, though they look as if they were none.
func oddNames() []string {
	return []string{"...", " ", "\xff", "\x01", "a\nb", "ä", "a.", ".a", "..a", "\\", strings.Repeat("x", 254), strings.Repeat("x", 255)}
}

func sameXattr(a, b api.Xattr) bool { return a.Name == b.Name && bytes.Equal(a.Value, b.Value) }

// tells is of a ref: all that is told of it is what a node says.
func tells(t *testing.T, what string, u *upper.Upper, ref int, n api.Node) {
	t.Helper()
	s, e := u.Stat(ref)
	if s.Kind != n.Kind || s.Attr != n.Attr || e != api.OK {
		t.Errorf("%s: Stat %+v, error %d", what, s, e)
	}
	if x, e := u.Xattrs(ref); !slices.EqualFunc(x, n.Xattrs, sameXattr) || e != api.OK {
		t.Errorf("%s: Xattrs %q, error %d; wanted %q", what, x, e, n.Xattrs)
	}
	if u.Opaque(ref) != n.Opaque {
		t.Errorf("%s: Opaque %v", what, u.Opaque(ref))
	}
	readError, targetError, listError := api.ErrArg, api.ErrArg, api.ErrNotDir
	switch n.Kind {
	case api.Dir:
		readError, listError = api.ErrIsDir, api.OK
	case api.File:
		readError = api.OK
	case api.Link:
		targetError = api.OK
	}
	if b, e := u.Read(ref, 0, math.MaxInt); !bytes.Equal(b, n.Data) || e != readError {
		t.Errorf("%s: Read %.30q, error %d; wanted %.30q, error %d", what, b, e, n.Data, readError)
	}
	if target, e := u.Target(ref); target != n.Target || e != targetError {
		t.Errorf("%s: Target %q, error %d; wanted %q, error %d", what, target, e, n.Target, targetError)
	}
	l, e := u.List(ref)
	if e != listError || e != api.OK && len(l) != 0 {
		t.Errorf("%s: List %v, error %d, wanted %d", what, l, e, listError)
	}
	if n.Kind != api.Dir && s.Size != len(n.Data)+len(n.Target) || n.Kind == api.Dir && s.Size != len(l) {
		t.Errorf("%s: Size %d", what, s.Size)
	}
}
