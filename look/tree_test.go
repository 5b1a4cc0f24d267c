package look_test

import (
	"fmt"
	"strings"
	"testing"

	"lamella/api"
	"lamella/look"
	"lamella/tree"
)

// P20.3, P20.4: Tree.

// short is a row of nodes in words, each with its mode (that of its layer) and its Ino.
func short(l []api.Node) string {
	var all []string
	for _, n := range l {
		all = append(all, fmt.Sprintf("%s%s:%d=%d", strings.Join(n.Names, "/"), sign(n.Kind), n.Attr.Mode, n.Ino))
	}
	return strings.Join(all, " ")
}

func treeIs(t *testing.T, want string, layers ...string) {
	t.Helper()
	s := stacked(t, layers...)
	l, e := s.Tree()
	if got := short(l); got != want || e != api.OK {
		t.Errorf("Tree of %q: error %d\n%s\nwanted\n%s", layers, e, got, want)
	}
	agrees(t, fmt.Sprintf("%q", layers), s)
}

func TestTreeOfOneToFourLayers(t *testing.T) {
	treeIs(t, "/:0=1", "")
	treeIs(t, "/:0=1", "! w-")
	treeIs(t, "/:0=1 a:0=2 d/:0=3 d/f:0=4 l@:0=5", "l@ d! a d/f w- d/w-")
	treeIs(t, "/:0=1 a:1=2", "", "a")
	treeIs(t, "/:0=1", "a-", "a")
	treeIs(t, "/:0=1 b:0=2", "! b", "a")
	treeIs(t, "/:0=1 a:0=2 b:1=3 d/:0=4 d/x:1=5 d/y:0=6", "a d/ d/y d/w-", "a b d/ d/x d/w")
	treeIs(t, "/:0=1 a:1=2 b:1=2 c:0=3 d:2=4", "c", "a=1 b=1", "a=1 b=1 d")
	treeIs(t, "/:0=1 a:0=2 b:1=3 c:2=4", "a", "a b", "a b c")
	treeIs(t, "/:0=1 d/:0=2 d/x:1=3", "d/", "d! d/x", "d/ d/y")
	treeIs(t, "/:0=1 a/:1=2 a/x:1=3 a/y:2=4 c@:3=5", "", "a/ a/x", "a/ a/y b-", "b@ c@")
	treeIs(t, "/:0=1 a/:1=2 a/x:1=3 a/y:2=4 b@:3=5 c:0=6", "c", "a/ a/x", "a/ a/y", "b@ a c/")
	treeIs(t, "/:0=1 a:0=2 b:1=3 c:2=4 d:3=5", "a", "b a-", "c b-", "d c-")
}

// TestTreeOfAll has each field of each node.
func TestTreeOfAll(t *testing.T) {
	x := []api.Xattr{{Name: "a", Value: []byte("1")}, {Name: "b"}}
	top := []api.Node{
		{Ino: 1, Kind: api.Dir, Attr: api.Attr{Mode: 1, Uid: 2, Gid: 3}, Xattrs: x},
		{Names: []string{"d"}, Ino: 2, Kind: api.Dir, Attr: api.Attr{Mode: 511, Uid: 65535, Gid: 65535}},
		{Names: []string{"l"}, Ino: 3, Kind: api.Link, Target: "top", Xattrs: x[1:]},
		{Names: []string{"o"}, Ino: 4, Kind: api.Dir, Xattrs: x[:1], Opaque: true},
	}
	low := []api.Node{
		{Ino: 1, Kind: api.Dir, Attr: api.Attr{Mode: 9, Uid: 9, Gid: 9}},
		{Names: []string{"d"}, Ino: 2, Kind: api.Dir, Xattrs: x},
		{Names: []string{"d", "g"}, Ino: 3, Kind: api.File, Attr: api.Attr{Mode: 7, Uid: 8, Gid: 9}, Data: []byte(strings.Repeat("low", 100)), Xattrs: x},
		{Names: []string{"g"}, Ino: 3, Kind: api.File, Attr: api.Attr{Mode: 7, Uid: 8, Gid: 9}, Data: []byte(strings.Repeat("low", 100)), Xattrs: x},
		{Names: []string{"o"}, Ino: 4, Kind: api.Dir},
		{Names: []string{"o", "p"}, Ino: 5, Kind: api.File},
	}
	want := []api.Node{top[0], top[1], low[2], low[3], top[2], top[3]}
	for i, ino := range []int{1, 2, 3, 3, 4, 5} {
		want[i].Ino, want[i].Opaque = ino, false
	}
	s := stackOf(t, top, low)
	if l, e := s.Tree(); !sameNodes(l, want) || e != api.OK {
		t.Errorf("Tree: error %d\n%s\nwanted\n%s", e, text(l), text(want))
	}
	if all := gathered(t, s); !sameNodes(all, want) {
		t.Errorf("told is\n%s\nwanted\n%s", text(all), text(want))
	}
}

// TestTreeIsATree: it may be, and is in canonical order; and a stack of its image shows it again.
func TestTreeIsATree(t *testing.T) {
	for seed := range 150 {
		l, e := anyStack(t, seed).Tree()
		canon, wrong := tree.Canon(l)
		if e != api.OK || wrong != api.OK || !sameNodes(l, canon) {
			t.Fatalf("stack %d: error %d, Canon: error %d\n%s", seed, e, wrong, text(l))
		}
		root := api.Node{Ino: 1, Kind: api.Dir, Attr: l[0].Attr, Xattrs: l[0].Xattrs}
		again := stackOf(t, []api.Node{root}, l)
		if got, e := again.Tree(); !sameNodes(got, l) || e != api.OK {
			t.Fatalf("stack %d, again: error %d\n%s\nwanted\n%s", seed, e, text(got), text(l))
		}
	}
}

// TestTreeOfMany: there may be more nodes than one tree has.
func TestTreeOfMany(t *testing.T) {
	var layers []string
	for i := range 4 {
		var words []string
		for k := range 1023 {
			words = append(words, fmt.Sprintf("%d.%04d", i, k))
		}
		layers = append(layers, strings.Join(words, " "))
	}
	s := stacked(t, layers...)
	l, e := s.Tree()
	if len(l) != 4*1023+1 || e != api.OK {
		t.Errorf("Tree: %d nodes, error %d", len(l), e)
	}
	sizeIs(t, s, "", 0, 4*1023)
}

// TestAWorkedOnBranch: rows of calls of the upper branch, behind each of which all is held against the model.
func TestAWorkedOnBranch(t *testing.T) {
	for seed := range 25 {
		s := anyStack(t, seed)
		c := chance(seed)
		for i := range 25 {
			work(&c, s)
			if i%5 == 0 {
				agrees(t, fmt.Sprintf("stack %d, behind call %d", seed, i), s)
			}
			tellsTree(t, fmt.Sprintf("stack %d, behind call %d", seed, i), s)
		}
	}
}

// work does one call of the upper branch, which may tell an error.
func work(c *chance, s *look.Stack) {
	u := s.Up
	ref, dir := 1+c.below(40), 1+c.below(40)
	name, other := pick(c, "a", "a-", "b", "\xff", "ab"), pick(c, "a", "a-", "b", "\xff", "ab")
	switch c.below(8) {
	case 0, 1, 2:
		n := anyNode(c, nil, pick(c, api.Dir, api.Dir, api.File, api.Link, api.White), false)
		u.Make(dir, name, n)
	case 3:
		u.Remove(dir, name)
	case 4:
		u.Move(dir, name, ref, other)
	case 5:
		u.SetOpaque(dir, c.below(4) == 0)
	case 6:
		if stat, _ := u.Stat(ref); stat.Kind != api.White { // a White of two names is in no tree that may be
			u.Link(dir, name, ref)
		}
	case 7:
		u.Write(ref, c.below(10), []byte("written"))
		u.SetAttr(ref, api.Attr{Mode: c.below(512)})
	}
}
