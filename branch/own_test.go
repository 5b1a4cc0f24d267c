package branch_test

import (
	"fmt"
	"slices"
	"strings"
	"testing"

	"lamella/api"
	"lamella/branch"
	"lamella/image"
	"lamella/upper"
)

// R2, R6, R7: what is handed in, what is kept, and what is answered.

// roomy is a copy of a list with spare room that is not empty.
func roomy[T any](l []T, spare T) []T {
	out := slices.Concat(l, slices.Repeat([]T{spare}, 5))
	return out[:len(l)]
}

// room is a copy of nodes, each list of which has spare room.
func room(l []api.Node) []api.Node {
	out := roomy(l, opaque(attributed(file("spare", "room"), xattr("spare", "room"))))
	for i := range out {
		n := &out[i]
		n.Names, n.Data, n.Xattrs = roomy(n.Names, "spare"), roomy(n.Data, 0xee), roomy(n.Xattrs, xattr("spare", "room"))
		for k := range n.Xattrs {
			n.Xattrs[k].Value = roomy(n.Xattrs[k].Value, 0xee)
		}
	}
	return out
}

// whole is all of a row of nodes, with the spare room of each list, as text.
func whole(l []api.Node) string {
	var s strings.Builder
	for _, n := range l[:cap(l)] {
		fmt.Fprintf(&s, "%q %d %d %v %x %q %v\n", n.Names[:cap(n.Names)], n.Ino, n.Kind, n.Attr, n.Data[:cap(n.Data)], n.Target, n.Opaque)
		for _, x := range n.Xattrs[:cap(n.Xattrs)] {
			fmt.Fprintf(&s, "%q %x\n", x.Name, x.Value[:cap(x.Value)])
		}
	}
	return s.String()
}

func fill[T any](l []T, x T) {
	l = l[:cap(l)]
	for i := range l {
		l[i] = x
	}
}

// overwrite makes all of a node's lists others, their spare room too.
func overwrite(n *api.Node) {
	fill(n.Names, "over")
	fill(n.Data, 0xdd)
	for _, x := range n.Xattrs {
		fill(x.Value, 0xdd)
	}
	fill(n.Xattrs, xattr("over", "written"))
}

func overwriteAll(l []api.Node) {
	for i := range l {
		overwrite(&l[i])
	}
	fill(l, white("over"))
}

// noTrees are nodes that Check refuses.
func noTrees() map[string][]api.Node {
	return map[string][]api.Node{
		"no root": {white("a"), file("b", "x")}, "a White with attributes": rooted(attributed(white("a"), xattr("n", "v"))), "a White with Data": rooted(file("f", "x"), with(white("a"), func(n *api.Node) { n.Data = []byte("data") })),
		"an Opaque file": rooted(dir("d"), opaque(file("d/f", "x"))), "a node in a White": rooted(file("a/b", "x"), white("a")), "Whites of one Ino": rooted(one(1, white("b")), one(1, white("a"))),
		"a name that is none": rooted(attributed(file("b", "x"), xattr("n", "v")), white("..")), "too many": slices.Repeat(rooted(white("a")), 600),
	}
}

// TestNodesStay: what is handed in is neither changed, nor its spare room, nor kept.
func TestNodesStay(t *testing.T) {
	for what, l := range trees() {
		l = room(l)
		before, want := whole(l), canonical(room(l))
		if e := branch.Check(l); e != api.OK || whole(l) != before {
			t.Errorf("%s: Check: error %d; what was handed in is\n%sand was\n%s", what, e, whole(l), before)
		}
		u := filled(t, what, l)
		tells(t, what, u, want)
		if whole(l) != before {
			t.Errorf("%s: what was handed in to Fill is\n%sand was\n%s", what, whole(l), before)
		}
		told := all(u, last(l))
		overwriteAll(l)
		tells(t, what+", written over", u, want)
		if all(u, last(l)) != told {
			t.Errorf("%s, written over: told is\n%swanted\n%s", what, all(u, last(l)), told)
		}
	}
	for what, l := range noTrees() {
		l = room(l)
		before := whole(l)
		e := branch.Check(l)
		u, f := branch.Fill(much, l)
		if e == api.OK || f != e || u != nil || whole(l) != before {
			t.Errorf("%s: Check: error %d, Fill: %p, error %d; what was handed in is\n%sand was\n%s", what, e, u, f, whole(l), before)
		}
	}
}

// TestFilledGoItsOwnWay: what is done of a branch that was filled changes neither what was handed in nor another one of the same nodes.
func TestFilledGoItsOwnWay(t *testing.T) {
	for what, l := range trees() {
		l = room(l)
		before := whole(l)
		u, v := filled(t, what, l), filled(t, what, l)
		want := all(v, last(l))
		c := chance(len(what))
		for range 50 {
			step(&c, u, len(l)+3)
		}
		for ref := range len(l) + 3 {
			u.Write(ref, 0, []byte("over"))
			u.SetXattrs(ref, []api.Xattr{xattr("over", "written")})
			u.SetOpaque(ref, true)
		}
		if all(v, last(l)) != want || whole(l) != before {
			t.Errorf("%s: another branch is\n%sand was\n%s", what, all(v, last(l)), want)
		}
	}
}

// TestFilesThatAreOneAreOneNode: what is written under one name is told under the others, and of no other node.
func TestFilesThatAreOneAreOneNode(t *testing.T) {
	b := []byte("hi")
	x := []api.Xattr{xattr("n", "v")}
	node := func(number int, path string) api.Node {
		return one(number, api.Node{Names: named(path), Kind: api.File, Data: b, Xattrs: x})
	}
	u := filled(t, "files of one list", rooted(node(1, "a"), node(1, "b"), node(2, "c"))) // all have the same bytes in memory
	holds(t, "Write", u.Write(2, 0, []byte("H")))
	written := func(n api.Node) api.Node { return with(n, func(n *api.Node) { n.Data = []byte("Hi") }) }
	tells(t, "files of one list", u, canonical(rooted(written(node(1, "a")), written(node(1, "b")), node(2, "c"))))
	if string(b) != "hi" {
		t.Errorf("what was handed in is %q", b)
	}
}

// branchOf is one of either kind, and what its tree is.
type branchOf struct {
	b    image.Branch
	want []api.Node
}

func bothKinds(t *testing.T) map[string]branchOf {
	l := map[string]branchOf{}
	for what, nodes := range trees() {
		l[what+", filled"] = branchOf{filled(t, what, nodes), canonical(nodes)}
	}
	for what, nodes := range plainTrees() {
		l[what+", an image"] = branchOf{opened(t, what, nodes), canonical(nodes)}
	}
	return l
}

// TestAnswersAreTheCallersOwn: of two answers one is written over, its spare room too; neither the other nor a later one is changed.
func TestAnswersAreTheCallersOwn(t *testing.T) {
	for what, x := range bothKinds(t) {
		first, second := tells(t, what, x.b, x.want), tells(t, what, x.b, x.want)
		overwriteAll(first)
		if !sameNodes(second, x.want) {
			t.Errorf("%s: two answers share something", what)
		}
		tells(t, what+", later", x.b, x.want)
	}
}

// TestListsOfAnAnswerShareNothing: each node's lists are written over, and put something behind; all others of the answer stay, those of files that are one, too.
func TestListsOfAnAnswerShareNothing(t *testing.T) {
	for what, x := range bothKinds(t) {
		for i := range x.want {
			got := tells(t, what, x.b, x.want)
			n := &got[i]
			_, _, _ = append(n.Names, "more"), append(n.Data, 1, 2, 3), append(n.Xattrs, xattr("more", ""))
			for _, a := range n.Xattrs {
				_ = append(a.Value, 1, 2, 3)
			}
			if !sameNodes(got, x.want) {
				t.Errorf("%s: behind a list of %q stands something else", what, n.Names)
			}
			overwrite(n)
			if !sameNodes(slices.Delete(got, i, i+1), slices.Delete(slices.Clone(x.want), i, i+1)) {
				t.Errorf("%s: %q shares something with another node", what, x.want[i].Names)
			}
			for k := range x.want[i].Xattrs {
				got := tells(t, what, x.b, x.want)
				fill(got[i].Xattrs[k].Value, 0xdd)
				got[i].Xattrs[k].Value = x.want[i].Xattrs[k].Value
				if !sameNodes(got, x.want) {
					t.Errorf("%s: values of %q share something", what, x.want[i].Names)
				}
			}
		}
	}
}

// TestAnswersStay: what Tree told is not changed by what is done of the branch later on; and it fills another one that goes its own way.
func TestAnswersStay(t *testing.T) {
	for what, l := range trees() {
		u := filled(t, what, l)
		want := canonical(l)
		got := tells(t, what, u, want)
		other := filled(t, what, got)
		c := chance(len(what))
		for range 60 {
			step(&c, u, len(l)+3)
		}
		if !sameNodes(got, want) {
			t.Errorf("%s: an answer is\n%sand was\n%s", what, text(got), text(want))
		}
		overwriteAll(got)
		tells(t, what+", filled again", other, want)
	}
}

// TestLooksChangeNothing: a branch that is asked tells what it told, in whatever order it is asked, and takes no more.
func TestLooksChangeNothing(t *testing.T) {
	for what, l := range trees() {
		u := filled(t, what, l)
		want := all(u, last(l))
		for ref := range 3 {
			branch.Kind(u)
			branch.Upper(u)
			branch.Opaque(u, ref)
			tells(t, what, u, canonical(l))
			branch.Fill(api.Quota{}, nil)
			branch.Check(nil)
			if got := all(u, last(l)); got != want {
				t.Errorf("%s: told is\n%swanted\n%s", what, got, want)
			}
		}
		if got, _ := upper.New(much).Make(1, "a", dir("")); got != 2 {
			t.Errorf("%s: another branch begins with %d", what, got)
		}
	}
}
