package upper_test

import (
	"bytes"
	"fmt"
	"slices"
	"testing"

	"lamella/api"
	"lamella/upper"
)

// R2, R6, R7: what is handed in, what is kept, and what is answered.

// roomy is a copy of a list with spare room that is not empty.
func roomy[T any](l []T, spare T) []T {
	out := append(slices.Clone(l), slices.Repeat([]T{spare}, 20)...)
	return out[:len(l):len(out)]
}

// roomyXattrs have spare room in each value, too.
func roomyXattrs(l []api.Xattr) []api.Xattr {
	out := roomy(l, xattr("spare", "room"))
	for i := range out {
		out[i].Value = roomy(out[i].Value, 0xee)
	}
	return out
}

func fill[T any](l []T, x T) {
	l = l[:cap(l)]
	for i := range l {
		l[i] = x
	}
}

// overwrite makes all values, names and spare room of attributes others.
func overwrite(l []api.Xattr) {
	for _, x := range l {
		fill(x.Value, 0xdd)
	}
	fill(l, xattr("over", "written"))
}

// whole is all of what is handed in, with its spare room, as text.
func whole(b []byte, l []api.Xattr, names []string) string {
	out := fmt.Sprintf("%x %q", b[:cap(b)], names[:cap(names)])
	for _, x := range l[:cap(l)] {
		out += fmt.Sprintf(" %q=%x", x.Name, x.Value[:cap(x.Value)])
	}
	return out
}

// TestNodesAreNotKept: a node that is made stays as it was in the caller's hands, and what is written into it then is not seen.
func TestNodesAreNotKept(t *testing.T) {
	for _, nodes := range []map[string]api.Node{good(), bad()} {
		for what, n := range nodes {
			u := world(t)
			n.Data, n.Xattrs, n.Names = roomy(n.Data, 0xee), roomyXattrs(n.Xattrs), roomy([]string{"x"}, "spare")
			before := whole(n.Data, n.Xattrs, n.Names)
			u.Make(wDir, "new", n)
			u.Make(wDir, "new", n) // of a name that is there now
			want := all(u, wNext+2)
			if got := whole(n.Data, n.Xattrs, n.Names); got != before {
				t.Errorf("%s: what was handed in was %s and is %s", what, before, got)
			}
			fill(n.Data, 0xdd)
			overwrite(n.Xattrs)
			fill(n.Names, "over")
			if got := all(u, wNext+2); got != want {
				t.Errorf("%s: behind what was handed in, told is\n%swanted\n%s", what, got, want)
			}
		}
	}
}

func TestBytesAreNotKept(t *testing.T) {
	for _, x := range []struct{ size, off, n int }{{0, 0, 5}, {5, 0, 5}, {5, 2, 2}, {5, 5, 5}, {5, 100, 5}, {5, 0, 4096}, {4096, 0, 4096}, {0, 0, 4096}, {5, 4096, 1}, {5, -1, 5}, {5, 0, 4097}, {5, 5, 0}} {
		u := upper.New(much)
		ref := makes(t, u, 1, "f", file(mixed(x.size)))
		b := roomy([]byte(mixed(x.n)), 0xee)
		before := slices.Clone(b[:cap(b)])
		e := u.Write(ref, x.off, b)
		want := mixed(x.size)
		if e == api.OK {
			want = written(want, x.off, mixed(x.n))
		}
		isFile(t, "written", u, ref, want)
		if !bytes.Equal(b[:cap(b)], before) {
			t.Errorf("%+v: the bytes, or their spare room, were changed", x)
		}
		fill(b, 0xdd)
		isFile(t, "written over", u, ref, want)
		fill(b, 0xcc)
		holds(t, "Resize", u.Resize(ref, 4096))
		isFile(t, "and made longer", u, ref, resized(want, 4096))
	}
}

func TestAttributesAreNotKept(t *testing.T) {
	for _, nodes := range []map[string]api.Node{good(), bad()} {
		for what, n := range nodes {
			u := world(t)
			l := roomyXattrs(n.Xattrs)
			before := whole(nil, l, nil)
			u.SetXattrs(wFile, l)
			u.SetXattrs(wWhite, l)
			want := all(u, wNext)
			if got := whole(nil, l, nil); got != before {
				t.Errorf("%s: what was handed in was %s and is %s", what, before, got)
			}
			overwrite(l)
			if got := all(u, wNext); got != want {
				t.Errorf("%s: behind what was handed in, told is\n%swanted\n%s", what, got, want)
			}
		}
	}
}

// TestOneNodeTwice: of one node two are made, and attributes of one list are put to two: each has its own.
func TestOneNodeTwice(t *testing.T) {
	u := upper.New(much)
	n := attributed(file("hello"), xattr("a", "xyz"))
	a, b := makes(t, u, 1, "a", n), makes(t, u, 1, "b", n)
	holds(t, "Write", u.Write(a, 1, []byte("E")))
	tells(t, "the first", u, a, attributed(file("hEllo"), xattr("a", "xyz")))
	tells(t, "the second", u, b, n)
	holds(t, "SetXattrs", u.SetXattrs(a, n.Xattrs))
	holds(t, "SetXattrs", u.SetXattrs(b, n.Xattrs))
	x, _ := u.Xattrs(a)
	overwrite(x)
	tells(t, "the second", u, b, n)
	tells(t, "what was handed in", u, a, attributed(file("hEllo"), n.Xattrs...))
}

// lists are all answers of a branch that have lists.
func lists(u *upper.Upper) (entries [][]api.Entry, read [][]byte, xattrs [][]api.Xattr) {
	for ref := wRoot; ref < wNext+2; ref++ {
		l, _ := u.List(ref)
		x, _ := u.Xattrs(ref)
		entries, xattrs = append(entries, l), append(xattrs, x)
		for off := range 6 {
			for _, n := range []int{1, 2, 5, 5000} {
				b, _ := u.Read(ref, off, n)
				read = append(read, b)
			}
		}
	}
	return entries, read, xattrs
}

// TestAnswersAreTheCallersOwn: each answer is written over, its spare room too; neither a later one nor a clone's, made ahead or behind, is changed.
func TestAnswersAreTheCallersOwn(t *testing.T) {
	u := world(t)
	makes(t, u, wRoot, "new", attributed(file(mixed(300)), xattr("a", "1"), xattr("b", "22"), xattr("c", "333")))
	want := all(u, wNext+2)
	c := u.Clone()
	for _, b := range []*upper.Upper{u, c} {
		entries, read, xattrs := lists(b)
		for i := range entries {
			fill(entries[i], api.Entry{Name: "over", Kind: 9, Ref: -1})
			overwrite(xattrs[i])
		}
		for _, r := range read {
			fill(r, 0xdd)
		}
		for what, x := range map[string]*upper.Upper{"the branch": u, "its clone": c, "a later clone": u.Clone(), "a clone's clone": c.Clone()} {
			if got := all(x, wNext+2); got != want {
				t.Errorf("%s tells\n%swanted\n%s", what, got, want)
			}
			names(t, x)
		}
	}
}

// TestAnswersShareNothing: of two answers of one call, and of an answer's own values, one is written over.
func TestAnswersShareNothing(t *testing.T) {
	u := world(t)
	makes(t, u, wRoot, "new", attributed(file(mixed(300)), xattr("a", "1"), xattr("b", "22"), xattr("c", "333")))
	asText := func(a [][]api.Entry, b [][]byte, c [][]api.Xattr) string { return fmt.Sprintf("%v %x %q", a, b, c) }
	want := asText(lists(u))
	entries, read, xattrs := lists(u)
	other, otherRead, otherXattrs := lists(u)
	cloned, clonedRead, clonedXattrs := lists(u.Clone())
	for i := range entries {
		fill(entries[i], api.Entry{Name: "over"})
		overwrite(xattrs[i])
	}
	for i := range read {
		fill(read[i], 0xdd)
	}
	if asText(other, otherRead, otherXattrs) != want || asText(cloned, clonedRead, clonedXattrs) != want {
		t.Error("two answers share something")
	}
	for _, l := range otherXattrs {
		for i := range l {
			before := fmt.Sprintf("%q", slices.Delete(slices.Clone(l), i, i+1))
			fill(l[i].Value, 0xdd)
			_ = append(l[i].Value, "more than there is room for"...)
			if after := fmt.Sprintf("%q", slices.Delete(slices.Clone(l), i, i+1)); after != before {
				t.Errorf("values of one answer share bytes: %s, and were %s", after, before)
			}
		}
	}
}

// TestAnswersStay: what was answered is not changed by what is done of the branch later on.
func TestAnswersStay(t *testing.T) {
	for what, change := range changes() {
		u := world(t)
		entries, read, xattrs := lists(u)
		want := fmt.Sprintf("%v %x %q", entries, read, xattrs)
		holds(t, what, change(u))
		if got := fmt.Sprintf("%v %x %q", entries, read, xattrs); got != want {
			t.Errorf("%s: an answer was %s and is %s", what, want, got)
		}
	}
}

// TestSameAnswers: looks and refused calls change nothing, and two branches of which the same was done tell the same.
func TestSameAnswers(t *testing.T) {
	for what, change := range changes() {
		u, other := world(t), world(t)
		want := all(u, wNext+2)
		for ref := -1; ref < wNext+2; ref++ {
			u.Look(ref, "d")
			u.Link(ref, "a/b", ref)
			u.Remove(ref, "none")
			u.Move(ref, "none", ref, "none")
			u.Write(ref, 5000, nil)
			u.Resize(ref, -1)
			u.SetAttr(ref, api.Attr{Mode: 512})
			u.SetXattrs(ref, []api.Xattr{{}})
			u.SetOpaque(wFile, true)
			u.Make(ref, "n", api.Node{})
			u.Clone().Remove(ref, "d")
		}
		if got := all(u, wNext+2); got != want {
			t.Errorf("told is\n%swanted\n%s", got, want)
		}
		holds(t, what, change(u))
		holds(t, what, change(other))
		if all(u, wNext+2) != all(other, wNext+2) {
			t.Errorf("%s: two branches tell\n%sand\n%s", what, all(u, wNext+2), all(other, wNext+2))
		}
	}
}

// TestZero: a branch that New did not make has no nodes, and no call of it panics.
func TestZero(t *testing.T) {
	var u upper.Upper
	for _, ref := range []int{0, 1, 2} {
		isNoRef(t, "a zero value", &u, ref)
		isNoRef(t, "its clone", u.Clone(), ref)
	}
	if u.Root() != 1 || u.Used() != (api.Quota{}) || u.Over() {
		t.Errorf("Root %d, Used %+v, Over %v", u.Root(), u.Used(), u.Over())
	}
}
