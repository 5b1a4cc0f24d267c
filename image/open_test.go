package image_test

import (
	"fmt"
	"slices"
	"strings"
	"testing"

	"lamella/api"
	"lamella/build"
	"lamella/image"
	"lamella/mount"
)

// P16.1: Open.

func TestExamples(t *testing.T) {
	m := opened(t, "a root and a file", []api.Node{{Ino: 1, Kind: api.Dir}, {Names: []string{"a"}, Ino: 2, Kind: api.File}})
	finds(t, "a", m, []string{"a"}, api.OK)
	finds(t, "a/b", m, []string{"a", "b"}, api.ErrNotDir)
	finds(t, "b", m, []string{"b"}, api.ErrNone)
}

// noTrees are nodes of which there is no image, by Build's errors.
func noTrees() map[api.Errno]map[string][]api.Node {
	long := strings.Repeat("n", 256)
	two := func(n, m api.Node) []api.Node { return rooted(one(1, n), one(1, m)) }
	opaque := dir("d")
	opaque.Opaque = true
	return map[api.Errno]map[string][]api.Node{
		api.ErrRoot: {
			"nil": nil, "none": {}, "a file alone": {file("a", nil)}, "a file as the root": {file("", nil)}, "a symbolic link as the root": {link("", "t")},
		},
		api.ErrBig: {
			"1025 nodes": rooted(manyFiles(1024, 0)...), "nothing but 2000 roots": make([]api.Node, 2000), "more than 2^20 bytes": rooted(manyFiles(300, 4096)...),
		},
		api.ErrLong:   {"a name of 256 bytes": rooted(file(long, nil)), "one within a directory": rooted(dir("d"), dir("d/"+long))},
		api.ErrName:   {"an empty name": rooted(file("a/", nil)), "a point": rooted(dir(".")), "two points": rooted(dir("d"), file("d/..", nil)), "a nought": rooted(file("a\x00", nil)), "a slash": rooted(api.Node{Names: []string{"a/b"}, Kind: api.File})},
		api.ErrDeep:   {"17 names": chain(17)},
		api.ErrTwice:  {"a file twice": rooted(file("a", nil), file("a", nil)), "two roots": rooted(dir("")), "a file and a directory": rooted(file("a", nil), dir("b"), dir("a"))},
		api.ErrParent: {"a/b alone": rooted(file("a/b", nil)), "a node in a file": rooted(file("a", nil), file("a/b", nil)), "a node in a symbolic link": rooted(link("a", "t"), file("a/b", nil))},
		api.ErrKind: {
			"no kind": rooted(api.Node{Names: named("a")}), "a White": rooted(api.Node{Names: named("a"), Kind: api.White}), "a Mode of 512": rooted(attr(file("a", nil), 512, 0, 0)), "a Uid of 65536": rooted(attr(file("a", nil), 0, 65536, 0)),
			"a Gid below 0": rooted(attr(dir("a"), 0, 0, -1)), "4097 bytes": rooted(file("a", mixed(1, 4097))), "no target": rooted(link("a", "")), "attributes that fall": rooted(attributed(file("a", nil), xattr("b", ""), xattr("a", ""))), "Opaque": rooted(opaque),
		},
		api.ErrLinks: {"files that differ": two(file("a", nil), file("b", []byte("x"))), "directories": two(dir("a"), dir("b")), "a file and a symbolic link": two(file("a", nil), link("b", "t"))},
	}
}

func TestOpenOfNoTree(t *testing.T) {
	for want, trees := range noTrees() {
		for what, l := range trees {
			m, e := image.Open(l)
			if m != nil || e != want {
				t.Errorf("%s: Open: %v, error %d; wanted none, error %d", what, m != nil, e, want)
			}
			if _, e := build.Build(l); e != want {
				t.Errorf("%s: Build: error %d, wanted %d", what, e, want)
			}
		}
	}
}

// TestOpenTellsTheFirst: of several errors that hold the one that Build tells.
func TestOpenTellsTheFirst(t *testing.T) {
	bad := []struct {
		want  api.Errno
		nodes []api.Node
	}{
		{api.ErrName, []api.Node{file("a\x00", nil)}}, {api.ErrDeep, []api.Node{file(strings.Repeat("d/", 16)+"f", nil)}}, {api.ErrTwice, []api.Node{file("t", nil), file("t", nil)}},
		{api.ErrParent, []api.Node{file("x/y", nil)}}, {api.ErrKind, []api.Node{link("k", "")}}, {api.ErrLinks, []api.Node{one(1, dir("i")), one(1, dir("j"))}},
	}
	for i, first := range bad {
		nodes := first.nodes
		for _, later := range bad[i+1:] {
			nodes = slices.Concat(later.nodes, nodes)
		}
		if m, e := image.Open(rooted(nodes...)); m != nil || e != first.want {
			t.Errorf("from %d on: Open: %v, error %d", first.want, m != nil, e)
		}
		if m, e := image.Open(rooted(append(nodes, manyFiles(1024, 0)...)...)); m != nil || e != api.ErrBig {
			t.Errorf("from %d on, and too many: Open: %v, error %d", first.want, m != nil, e)
		}
	}
}

func TestOpenOfARoot(t *testing.T) {
	for _, l := range [][]api.Node{{{Kind: api.Dir}}, {{Kind: api.Dir, Names: []string{}, Ino: -5}}, rooted(), {attributed(attr(dir(""), 511, 65535, 65535), manyXattrs(8, 200)...)}} {
		m := opened(t, "a root alone", l)
		if list, e := m.List(m.Root()); len(list) != 0 || e != api.OK {
			t.Errorf("List %v, error %d", list, e)
		}
		if s, e := m.Stat(m.Root()); s != (api.Stat{Kind: api.Dir, Attr: l[0].Attr, Links: 1}) || e != api.OK {
			t.Errorf("Stat %+v, error %d", s, e)
		}
		if got := tells(t, "a root alone", m, l); len(got) != 1 || got[0].Ino != 1 || len(got[0].Names) != 0 {
			t.Errorf("Tree %s", text(got))
		}
	}
}

// all is all that an image tells of each node of a tree, refs too, as text.
func all(t *testing.T, m *mount.Image, l []api.Node) string {
	t.Helper()
	s := fmt.Sprintln(m.Root())
	for _, n := range l {
		ref, e := image.Find(m, n.Names)
		stat, e1 := m.Stat(ref)
		list, e2 := m.List(ref)
		b, e3 := m.Read(ref, 0, api.MaxFile)
		target, e4 := m.Target(ref)
		x, e5 := m.Xattrs(ref)
		s += fmt.Sprintln(n.Names, ref, stat, list, b, target, x, e, e1, e2, e3, e4, e5)
	}
	return s
}

// TestOpenIsTheImage: what is opened is what Mount reads of what Build writes.
func TestOpenIsTheImage(t *testing.T) {
	for what, l := range trees() {
		b, e := build.Build(l)
		m, f := mount.Mount(b)
		if e != api.OK || f != api.OK {
			t.Fatalf("%s: errors %d, %d", what, e, f)
		}
		if all(t, opened(t, what, l), l) != all(t, m, l) {
			t.Errorf("%s: another image", what)
		}
	}
}

// TestOpenInAnyOrder: the nodes in another order, and with other Inos, are the same image.
func TestOpenInAnyOrder(t *testing.T) {
	for what, l := range trees() {
		want := all(t, opened(t, what, l), l)
		c := chance(len(l))
		for turn := range 6 {
			other := slices.Clone(l)
			for i := range other {
				k := c.below(i + 1)
				other[i], other[k] = other[k], other[i]
			}
			for i := range other {
				other[i].Ino = []int{3 * other[i].Ino, -other[i].Ino, other[i].Ino + 1000, 1<<62 - other[i].Ino, other[i].Ino << 40, ^other[i].Ino}[turn]
			}
			m := opened(t, what, other)
			if all(t, m, l) != want {
				t.Errorf("%s: another image, in order %d", what, turn)
			}
			tells(t, what, m, l)
		}
	}
}

// P16.2: Mounted, Image.

// wrapped has all that an image has, but is none.
type wrapped struct{ *mount.Image }

func TestMounted(t *testing.T) {
	for what, l := range trees() {
		m := opened(t, what, l)
		if got, ok := image.Mounted(m); got != m || !ok {
			t.Errorf("%s: Mounted: %p, %v; wanted %p", what, got, ok, m)
		}
		if got := image.Image(m); got != m {
			t.Errorf("%s: Image: %p; wanted %p", what, got, m)
		}
	}
	b, _ := build.Build(world())
	one, _ := mount.Mount(b)
	two, _ := mount.Mount(b)
	if got, _ := image.Mounted(one); got == two || image.Image(two) == one {
		t.Error("another image of the same bytes")
	}
}

// others are branches that are no images.
func others(t *testing.T) map[string]image.Branch {
	m := opened(t, "a world", world())
	var none *stranger
	return map[string]image.Branch{
		"nil": nil, "a stranger": strange(canon(t, "a world", world()), func(i int) int { return i }), "an image in something": wrapped{m}, "the address of that": &wrapped{m},
		"nothing in something": wrapped{}, "no stranger": none,
	}
}

func TestMountedOfOthers(t *testing.T) {
	for what, b := range others(t) {
		if m, ok := image.Mounted(b); m != nil || ok {
			t.Errorf("%s: Mounted: %p, %v; wanted nil, false", what, m, ok)
		}
	}
}

func TestImagePanics(t *testing.T) {
	for what, b := range others(t) {
		func() {
			defer func() {
				if recover() == nil {
					t.Errorf("%s: Image does not panic", what)
				}
			}()
			image.Image(b)
		}()
	}
}
