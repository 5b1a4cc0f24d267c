package image_test

import (
	"fmt"
	"maps"
	"slices"
	"strings"
	"testing"

	"lamella/api"
	"lamella/image"
)

// R2, R6, R7: what is handed in, what a branch keeps, and what is answered.

// room is a copy of nodes, each list of which has spare room that is not empty.
func room(l []api.Node) []api.Node {
	out := roomy(l, attributed(file("spare", []byte("room")), xattr("spare", "room")))
	for i := range out {
		n := &out[i]
		n.Names, n.Data, n.Xattrs = roomy(n.Names, "spare"), roomy(n.Data, 0xee), roomy(n.Xattrs, xattr("spare", "room"))
		for k := range n.Xattrs {
			n.Xattrs[k].Value = roomy(n.Xattrs[k].Value, 0xee)
		}
	}
	return out
}

// whole is all of a row of nodes, with the spare room of each list, as text.
func whole(l []api.Node) string {
	var s strings.Builder
	for _, n := range l[:cap(l)] {
		fmt.Fprintf(&s, "%q %d %d %v %x %q %v\n", n.Names[:cap(n.Names)], n.Ino, n.Kind, n.Attr, n.Data[:cap(n.Data)], n.Target, n.Opaque)
		for _, x := range n.Xattrs[:cap(n.Xattrs)] {
			fmt.Fprintf(&s, "%q %x\n", x.Name, x.Value[:cap(x.Value)])
		}
	}
	return s.String()
}

func fill[T any](l []T, x T) {
	l = l[:cap(l)]
	for i := range l {
		l[i] = x
	}
}

// overwrite makes all of a node's lists others, their spare room too.
func overwrite(n *api.Node) {
	fill(n.Names, "over")
	fill(n.Data, 0xdd)
	for _, x := range n.Xattrs {
		fill(x.Value, 0xdd)
	}
	fill(n.Xattrs, xattr("over", "written"))
}

func overwriteAll(l []api.Node) {
	for i := range l {
		overwrite(&l[i])
	}
	fill(l, api.Node{})
}

func TestNodesStay(t *testing.T) {
	for what, l := range trees() {
		l = room(l)
		before := whole(l)
		m := opened(t, what, l)
		image.Tree(m)
		if whole(l) != before {
			t.Errorf("%s: what was handed in to Open was changed", what)
		}
		want := canon(t, what, l)
		overwriteAll(l)
		tells(t, what+", written over", m, want)
	}
	for _, trees := range noTrees() {
		for what, l := range trees {
			l = room(l)
			before := whole(l)
			image.Open(l)
			if whole(l) != before {
				t.Errorf("%s: what was handed in to Open was changed, beside an error", what)
			}
		}
	}
}

func TestNamesStay(t *testing.T) {
	m := opened(t, "a world", world())
	for _, path := range []string{"", "a", "d/f", "a/b", "x", "x/y", "o/p/q/r", "o/p/q/r/s"} {
		names := roomy(named(path), "spare")
		before := slices.Clone(names[:cap(names)])
		for range 3 {
			image.Find(m, names)
		}
		if !slices.Equal(names[:cap(names)], before) {
			t.Errorf("%s: the names, or their spare room, were changed", path)
		}
	}
}

// kept is all that a stranger keeps, with the spare room of each list, as text.
func kept(s *stranger) string {
	out := ""
	for _, ref := range slices.Sorted(maps.Keys(s.nodes)) {
		x := s.nodes[ref]
		out += fmt.Sprintf("%v %q\n", x.list[:cap(x.list)], x.target)
		out += whole([]api.Node{{Ino: ref, Kind: x.stat.Kind, Attr: x.stat.Attr, Data: x.data, Xattrs: x.xattrs}})
	}
	return out
}

// TestBranchesStay: a branch that hands out what it keeps has its own at the end, in whatever way an answer is written over.
func TestBranchesStay(t *testing.T) {
	for what, l := range trees() {
		l = canon(t, what, l)
		s := strange(l, func(i int) int { return 3 - i })
		before := kept(s)
		for range 2 {
			got := tells(t, what, s, l)
			if kept(s) != before {
				t.Errorf("%s: Tree changes what the branch keeps", what)
			}
			overwriteAll(got)
			if kept(s) != before {
				t.Errorf("%s: an answer of Tree shares something with what the branch keeps", what)
			}
		}
		image.Find(s, []string{"a", "b"})
		if kept(s) != before {
			t.Errorf("%s: Find changes what the branch keeps", what)
		}
	}
}

// TestAnswersAreTheCallersOwn: of two answers one is written over; neither the other nor a later one is changed.
func TestAnswersAreTheCallersOwn(t *testing.T) {
	for what, l := range trees() {
		want := canon(t, what, l)
		for kind, b := range map[string]image.Branch{"an image": opened(t, what, l), "a stranger": strange(want, func(i int) int { return i })} {
			one, two := tells(t, what, b, l), tells(t, what, b, l)
			overwriteAll(one)
			if !sameNodes(two, want) {
				t.Errorf("%s, %s: two answers share something", what, kind)
			}
			tells(t, what+", "+kind+", later", b, l)
		}
	}
}

// TestListsOfAnAnswerShareNothing: each node's lists are written over, and all others of the answer stay; those of files that are one, too.
func TestListsOfAnAnswerShareNothing(t *testing.T) {
	for _, what := range []string{"a world", "files that are one", "symbolic links that are one", "attributes", "a chain of directories"} {
		l := canon(t, what, trees()[what])
		for kind, b := range map[string]image.Branch{"an image": opened(t, what, l), "a stranger": strange(l, func(i int) int { return i })} {
			for i := range l {
				got := tells(t, what, b, l)
				overwrite(&got[i])
				if !sameNodes(slices.Delete(got, i, i+1), slices.Delete(slices.Clone(l), i, i+1)) {
					t.Errorf("%s, %s: %q shares something with another node", what, kind, l[i].Names)
				}
			}
			for i := range l {
				for k := range l[i].Xattrs {
					got := tells(t, what, b, l)
					fill(got[i].Xattrs[k].Value, 0xdd)
					got[i].Xattrs[k].Value = l[i].Xattrs[k].Value
					if !sameNodes(got, l) {
						t.Errorf("%s, %s: %q: values share something", what, kind, l[i].Names)
					}
				}
			}
		}
	}
}

// TestAppendedAnswers: what is put behind an answer's list is seen nowhere.
func TestAppendedAnswers(t *testing.T) {
	for what, l := range trees() {
		l = canon(t, what, l)
		for kind, b := range map[string]image.Branch{"an image": opened(t, what, l), "a stranger": strange(l, func(i int) int { return i })} {
			got := tells(t, what, b, l)
			for i := range got {
				_ = append(got[i].Names, "more")
				_ = append(got[i].Data, 1, 2, 3)
				for _, x := range got[i].Xattrs {
					_ = append(x.Value, 1, 2, 3)
				}
				_ = append(got[i].Xattrs, xattr("more", ""))
			}
			if !sameNodes(got, l) {
				t.Errorf("%s, %s: a list behind another one", what, kind)
			}
			tells(t, what+", "+kind+", later", b, l)
		}
	}
}

// TestSameAnswers: an answer hangs neither on the calls ahead of it nor on errors that were told, and two images of one tree go their own ways.
func TestSameAnswers(t *testing.T) {
	l := canon(t, "a world", world())
	s, m, other := strange(l, func(i int) int { return -i }), opened(t, "a world", l), opened(t, "a world", l)
	want := all(t, m, l)
	for range 3 {
		finds(t, "a world", m, named("a/b"), api.ErrNotDir)
		finds(t, "a world", m, named("x"), api.ErrNone)
		s.failingAll(callRead, api.ErrIO)
		refuses(t, "a stranger", s, api.ErrIO)
		clear(s.fails)
		tells(t, "a stranger", s, l)
		overwriteAll(tells(t, "an image", m, l))
		if got, ok := image.Mounted(m); got != m || !ok {
			t.Error("Mounted, later")
		}
		if all(t, m, l) != want || all(t, other, l) != want {
			t.Error("other answers later on")
		}
	}
}
