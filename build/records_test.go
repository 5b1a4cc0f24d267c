package build_test

import (
	"fmt"
	"maps"
	"slices"
	"strings"
	"testing"

	"lamella/api"
	"lamella/dirtab"
	"lamella/table"
)

// modesInOrder are those of the records as they stand in the row of inodes.
func modesInOrder(t *testing.T, what string, l []api.Node) []int {
	t.Helper()
	o := open(t, what, built(t, what, l))
	all, refs := o.records(t, what)
	var modes []int
	for _, r := range all {
		modes = append(modes, r.Mode)
	}
	if last := len(refs) - 1; o.super.Root != refs[last] || len(all) != o.super.Inodes {
		t.Errorf("%s: root at %d, of records at %v", what, o.super.Root, refs)
	}
	return modes
}

// TestRecordsInOrder: each node has a Mode of its own, in the order in which the records should be; those that are one have one.
func TestRecordsInOrder(t *testing.T) {
	one := func(path string, mode int) api.Node { return numbered(moded(file(path, nil), mode), mode) }
	for _, x := range []struct {
		what string
		many int
		l    []api.Node
	}{
		{"a directory behind what is in it", 3, rooted(moded(dir("d"), 2), moded(file("d/f", nil), 1))},
		{"by names", 5, rooted(moded(file("d", nil), 4), moded(file("b", nil), 2), moded(link("a", "t"), 1), moded(dir("c"), 3))},
		{"a directory among files", 6, rooted(
			moded(file("a", nil), 1), moded(dir("b"), 4), moded(file("b/a", nil), 2), moded(file("b/z", nil), 3), moded(file("c", nil), 5))},
		{"directories in directories", 7, rooted(
			moded(dir("b"), 5), moded(dir("b/b"), 3), moded(file("b/a", nil), 1), moded(file("b/b/a", nil), 2),
			moded(link("b/c", "t"), 4), moded(file("c", nil), 6))},
		{"not in the order of paths", 5, rooted(moded(dir("a"), 2), moded(file("a/z", nil), 1), moded(file("a-", nil), 3), moded(file("a0", nil), 4))},
		{"one, met first above", 4, rooted(moded(dir("b"), 3), moded(file("b/a", nil), 2), one("a", 1), one("b/b", 1))},
		{"one, met first below", 4, rooted(moded(dir("b"), 2), one("b/a", 1), moded(file("c", nil), 3), one("d", 1))},
		{"one, ahead of and behind others", 5, rooted(
			moded(file("a", nil), 1), one("b", 2), moded(file("c", nil), 3), one("d", 2), moded(file("e", nil), 4))},
		{"one, of names in three directories", 6, rooted(
			moded(dir("a"), 2), one("a/z", 1), moded(dir("b"), 4), one("b/a", 1), moded(file("b/b", nil), 3), one("c", 1), moded(dir("d"), 5), one("d/a", 1))},
		{"symbolic links that are one", 3, rooted(
			numbered(moded(link("a", "t"), 1), 1), moded(link("b", "t"), 2), numbered(moded(link("c", "t"), 1), 1))},
	} {
		x.l[0] = moded(x.l[0], x.many)
		modes := modesInOrder(t, x.what, x.l)
		for i, mode := range modes {
			if mode != i+1 || len(modes) != x.many {
				t.Errorf("%s: Modes %v, wanted 1 to %d", x.what, modes, x.many)
				break
			}
		}
		slices.Reverse(x.l)
		if !slices.Equal(modesInOrder(t, x.what, x.l), modes) {
			t.Errorf("%s: another order backward", x.what)
		}
	}
}

// TestLists: those of directories come in the order of their records, with the refs of all names.
func TestLists(t *testing.T) {
	l := rooted(
		dir("b"), dir("b/c"), dir("d"), numbered(file("a", nil), 1), link("b/a", "t"),
		numbered(file("b/c/x", nil), 1), file("b/c/y", nil), dir("b/e"),
	)
	o := open(t, "lists", built(t, "lists", l))
	refs := map[string]int{}
	for _, n := range l {
		path := strings.Join(n.Names, "/")
		_, refs[path] = o.record(t, path)
	}
	// a 0, b/a 22, b/c/y 37, b/c 59, b/e 80, b 101, d 122; of the root, which ends at 164, the last bytes go over the first frame's end
	want := map[string]int{"a": 0, "b/a": 22, "b/c/x": 0, "b/c/y": 37, "b/c": 59, "b/e": 80, "b": 101, "d": 122}
	want[""] = refs[""]
	if !maps.Equal(refs, want) || refs[""]%256 != 143-128 || refs[""] < 256 {
		t.Errorf("refs %v, wanted %v", refs, want)
	}
	at := 0
	for _, x := range []struct {
		path    string
		entries []api.Entry
	}{
		{"b/c", []api.Entry{{Name: "x", Kind: api.File, Ref: 0}, {Name: "y", Kind: api.File, Ref: 37}}},
		{"b/e", nil},
		{"b", []api.Entry{{Name: "a", Kind: api.Link, Ref: 22}, {Name: "c", Kind: api.Dir, Ref: 59}, {Name: "e", Kind: api.Dir, Ref: 80}}},
		{"d", nil},
		{"", []api.Entry{{Name: "a", Kind: api.File, Ref: 0}, {Name: "b", Kind: api.Dir, Ref: 101}, {Name: "d", Kind: api.Dir, Ref: 122}}},
	} {
		r, ref := o.record(t, x.path)
		entries, e := dirtab.Take(o.list(t, ref))
		if r.Start != at || r.Size != 7*len(x.entries) || e != api.OK || !slices.Equal(entries, x.entries) {
			t.Errorf("%s: %+v, wanted a list at %d: %v, wanted %v", x.path, r, at, entries, x.entries)
		}
		at += r.Size
	}
}

// TestListGoesOverAFramesEnd: of names of any length, at any place of the row.
func TestListGoesOverAFramesEnd(t *testing.T) {
	for _, length := range []int{1, 60, 116, 117, 118, 122, 255} {
		l := rooted(dir("a"), file("a/"+strings.Repeat("x", length), nil), dir("b"))
		for i := range 40 {
			l = append(l, file(fmt.Sprintf("b/f%02d", i), nil))
		}
		what := fmt.Sprint("a name of ", length)
		image := built(t, what, l)
		isImageOf(t, what, image, l)
		o := open(t, what, image)
		_, p := partsOf(t, what, image)
		if len(p.lists) != length+6+40*(3+6)+2*7 {
			t.Errorf("%s: %d bytes of lists", what, len(p.lists))
		}
		b, _ := o.record(t, "b")
		root, _ := o.record(t, "")
		if b.Size != 360 || b.Start%256 != (length+6)%128 || root.Start%256 != (length+366)%128 || root.Size != 14 {
			t.Errorf("%s: %+v, %+v", what, b, root)
		}
	}
}

// TestEmptyDirectoryBehindAFullFrame: its list's ref is that of what would come next, the next frame's.
func TestEmptyDirectoryBehindAFullFrame(t *testing.T) {
	l := rooted(dir("a"), file("a/"+strings.Repeat("x", 122), nil), dir("b"))
	image := built(t, "full", l)
	isImageOf(t, "full", image, l)
	o := open(t, "full", image)
	_, p := partsOf(t, "full", image)
	full := len(frameOf(p.lists[:128]))
	b, _ := o.record(t, "b")
	root, _ := o.record(t, "")
	if b.Start != 256*full || b.Size != 0 || root.Start != 256*full {
		t.Errorf("%+v, %+v, wanted %d", b, root, 256*full)
	}
}

func TestSymbolicLinks(t *testing.T) {
	targets := []string{"t", strings.Repeat("t", 200), "/a//../b", "\xff\x01", strings.Repeat("t", 128)}
	var l []api.Node
	for i, target := range targets {
		l = append(l, moded(link(fmt.Sprint("l", i), target), 100+i))
	}
	l = rooted(l...)
	image := built(t, "symbolic links", l)
	o := open(t, "symbolic links", image)
	for i, target := range targets {
		r, _ := o.record(t, fmt.Sprint("l", i))
		if want := (api.Inode{Kind: api.Link, Mode: 100 + i, Links: 1, Target: target}); r != want {
			t.Errorf("%+v, wanted %+v", r, want)
		}
	}
	if o.super.InodeAt != 64 {
		t.Errorf("%+v: there are no blocks", o.super)
	}
	isImageOf(t, "symbolic links", image, l)
}

// TestOwners: the numbers of owners are their places among those that rise, each once, from 0 on.
func TestOwners(t *testing.T) {
	o := open(t, "owners", built(t, "owners", owners()))
	if want := []int{0, 1, 255, 256, 500, 65535}; !slices.Equal(o.owners, want) || o.super.IDs != 6 {
		t.Errorf("owners %v, wanted %v", o.owners, want)
	}
	for path, want := range map[string][2]int{
		"": {0, 0}, "a": {5, 0}, "b": {0, 5}, "c": {4, 4}, "c/d": {3, 2}, "e": {1, 5}, "f": {4, 3},
	} {
		if r, _ := o.record(t, path); [2]int{r.Uid, r.Gid} != want {
			t.Errorf("%s: %+v, wanted %v", path, r, want)
		}
	}
	for _, id := range []int{0, 1, 9, 65535} {
		l := []api.Node{owned(dir(""), id, id)}
		o := open(t, "one owner", built(t, "one owner", l))
		if r, _ := o.record(t, ""); r.Uid != 0 || r.Gid != 0 || !slices.Equal(o.owners, []int{id}) {
			t.Errorf("owner %d: %+v, %v", id, r, o.owners)
		}
	}
}

func TestLinks(t *testing.T) {
	l := rooted(
		dir("d"), dir("d/e"), file("d/f", nil), link("d/g", "t"),
		numbered(file("a", nil), 1), numbered(file("d/a", nil), 1), numbered(file("d/e/a", nil), 1),
		numbered(link("b", "t"), 2), numbered(link("c", "t"), 2),
	)
	o := open(t, "links", built(t, "links", l))
	for path, want := range map[string]int{
		"": 1, "d": 1, "d/e": 1, "d/f": 1, "d/g": 1, "a": 3, "d/a": 3, "d/e/a": 3, "b": 2, "c": 2,
	} {
		if r, _ := o.record(t, path); r.Links != want {
			t.Errorf("%s: %+v, wanted %d Links", path, r, want)
		}
	}
	if o.super.Inodes != 7 {
		t.Errorf("%d records", o.super.Inodes)
	}
	one := open(t, "1023 names", built(t, "1023 names", greatTrees()["1023 names of one"]))
	if r, _ := one.record(t, "f1022"); r.Links != 1023 || one.super.Inodes != 2 {
		t.Errorf("%+v, %+v", r, one.super)
	}
}

// TestAttributes: laid down once, in the order of the records, told by their ref and 1.
func TestAttributes(t *testing.T) {
	o := open(t, "attributes", built(t, "attributes", attributes()))
	_, p := partsOf(t, "attributes", o.image)
	var row []byte
	refs := map[string]int{}
	// b comes behind what is in it, e and the root have no others
	for _, x := range []struct {
		paths []string
		l     []api.Xattr
	}{
		{[]string{"a", "b/a", "e"}, []api.Xattr{xattr("a", "1"), xattr("b", "2")}},
		{[]string{"b/b"}, []api.Xattr{xattr("a", "2"), xattr("b", "1")}},
		{[]string{"b"}, []api.Xattr{xattr("a", "1"), xattr("b", "3")}},
		{[]string{"c"}, []api.Xattr{xattr("a", "1")}},
		{[]string{"d"}, []api.Xattr{xattr("b", "2")}},
		{[]string{"f", "h"}, nXattrs(8, 200)},
		{[]string{"g"}, nXattrs(8, 0)},
		{[]string{"i"}, []api.Xattr{sized(strings.Repeat("n", 40), 200)}},
		{[]string{"j", "k"}, []api.Xattr{xattr("one", "")}},
	} {
		b, e := table.PutXattrs(x.l)
		if e != api.OK {
			t.Fatal(e)
		}
		for _, path := range x.paths {
			refs[path] = refBehind(row) + 1
		}
		row = append(row, b...)
	}
	if string(p.xattrs) != string(row) {
		t.Errorf("attributes % x, wanted % x", p.xattrs, row)
	}
	refs[""], refs["l"] = 0, 0
	for path, want := range refs {
		if r, _ := o.record(t, path); r.Xattr != want {
			t.Errorf("%s: Xattr %d, wanted %d", path, r.Xattr, want)
		}
	}
	if refs["a"] != 1 || refs["b/b"] != 10 || refs["b"] != 19 {
		t.Errorf("%v", refs)
	}
}

// refBehind is the ref of what comes behind these bytes of a row.
func refBehind(ahead []byte) int {
	place := 0
	for ; len(ahead) >= 128; ahead = ahead[128:] {
		place += len(frameOf(ahead[:128]))
	}
	return 256*place + len(ahead)
}

// TestAttributesOfTheRoot: behind all others, as its record is.
func TestAttributesOfTheRoot(t *testing.T) {
	l := rooted(attributed(file("a", nil), xattr("a", "")), dir("b"), attributed(file("b/c", nil), xattr("c", "")))
	l[0] = attributed(l[0], xattr("r", ""))
	l[2] = attributed(l[2], xattr("b", ""))
	s, p := partsOf(t, "root", built(t, "root", l))
	holds(t, "attributes", p.xattrs, "01 01 61 00  01 01 63 00  01 01 62 00  01 01 72 00")
	o := open(t, "root", built(t, "root", l))
	for path, want := range map[string]int{"a": 1, "b/c": 5, "b": 9, "": 13} {
		if r, _ := o.record(t, path); r.Xattr != want {
			t.Errorf("%q: %+v, wanted %d; %+v", path, r, want, s)
		}
	}
}

// TestNoTableWithoutNeed: an image has no frame of a table that has nothing.
func TestNoTableWithoutNeed(t *testing.T) {
	for what, l := range map[string][]api.Node{
		"files without tails": rooted(file("a", rising(256)), file("b", nil)),
		"no files":            rooted(dir("a"), link("b", "t")),
	} {
		s := superOf(t, what, built(t, what, l))
		if s.Frags != 0 || s.FragAt != s.IDAt || s.XattrAt != s.Size || s.IDAt == s.XattrAt || s.DirAt == s.FragAt {
			t.Errorf("%s: %+v", what, s)
		}
	}
	s := superOf(t, "no lists", built(t, "no lists", rooted()))
	if s.DirAt != s.FragAt || s.InodeAt == s.DirAt {
		t.Errorf("no lists: %+v", s)
	}
}

// TestTablesOfSeveralFrames: of places of 4 bytes there is room for 32 in a frame, of owners of 2 bytes for 64.
func TestTablesOfSeveralFrames(t *testing.T) {
	l := manyOwnersAndFragments()
	image := built(t, "several frames", l)
	s, p := partsOf(t, "several frames", image)
	if s.Frags != 70 || len(p.places) != 280 || s.IDs != 141 || len(p.owners) != 282 {
		t.Errorf("%+v: %d and %d bytes", s, len(p.places), len(p.owners))
	}
	o := open(t, "several frames", image)
	place := 64
	for i := range 70 {
		f := frameOf(mixed(uint32(i), 65+i%60, 255))
		if o.places[i] != place {
			t.Fatalf("fragment %d at %d, wanted %d", i+1, o.places[i], place)
		}
		place += len(f)
		if r, _ := o.record(t, fmt.Sprintf("f%02d", i)); r.Frag != i+1 || r.Off != 0 || r.Start != 0 || r.Uid != 1+i || r.Gid != 140-i {
			t.Errorf("file %d: %+v", i, r)
		}
	}
	if place != s.InodeAt {
		t.Errorf("InodeAt %d, wanted %d", s.InodeAt, place)
	}
}
