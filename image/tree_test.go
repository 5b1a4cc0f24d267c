package image_test

import (
	"bytes"
	"fmt"
	"slices"
	"testing"

	"lamella/api"
	"lamella/build"
	"lamella/crc"
	"lamella/image"
	"lamella/mount"
	"lamella/super"
)

// P16.1: Tree.

// TestTreeOfWorld is written out, so that it hangs on no other layer's order.
func TestTreeOfWorld(t *testing.T) {
	got, e := image.Tree(opened(t, "a world", world()))
	want := []struct {
		path      string
		ino, kind int
		size      int
		xattrs    int
	}{
		{"", 1, api.Dir, 0, 0}, {"a", 2, api.File, 300, 2}, {"b", 3, api.File, 128, 0}, {"c", 4, api.File, 0, 0},
		{"d", 5, api.Dir, 0, 1}, {"d/e", 6, api.Dir, 0, 0}, {"d/f", 2, api.File, 300, 2}, {"d/g", 2, api.File, 300, 2}, {"d/l", 7, api.Link, 4, 1}, {"d/t", 8, api.File, 4, 0},
		{"empty", 9, api.Dir, 0, 0}, {"empty2", 10, api.Link, 7, 0}, {"l", 11, api.Link, 1, 0}, {"m", 10, api.Link, 7, 0},
		{"o", 12, api.Dir, 0, 0}, {"o/p", 13, api.Dir, 0, 0}, {"o/p/q", 14, api.Dir, 0, 0}, {"o/p/q/r", 15, api.File, 50, 0}, {"z", 2, api.File, 300, 2},
	}
	if len(got) != len(want) || e != api.OK {
		t.Fatalf("error %d\n%s", e, text(got))
	}
	for i, w := range want {
		n := got[i]
		if !slices.Equal(n.Names, named(w.path)) || n.Ino != w.ino || n.Kind != w.kind || len(n.Data)+len(n.Target) != w.size || len(n.Xattrs) != w.xattrs || n.Opaque {
			t.Errorf("%+v, wanted %+v", n, w)
		}
	}
	if !bytes.Equal(got[1].Data, mixed(1, 300)) || got[1].Attr != (api.Attr{Mode: 420, Uid: 5, Gid: 300}) || !slices.EqualFunc(got[1].Xattrs, []api.Xattr{xattr("user.a", "v"), xattr("user.b", "")}, sameXattr) {
		t.Errorf("%+v", got[1])
	}
	if got[8].Target != "../c" || got[4].Attr != (api.Attr{Mode: 448, Uid: 300, Gid: 5}) || got[12].Attr != (api.Attr{Mode: 511, Uid: 7, Gid: 7}) {
		t.Errorf("%s", text(got))
	}
}

func TestTreeOfSizes(t *testing.T) {
	for _, n := range []int{0, 1, 127, 128, 129, 4095, 4096} {
		for what, b := range map[string][]byte{"bytes": mixed(uint32(n), n), "noughts": make([]byte, n)} {
			what = fmt.Sprint(n, " ", what)
			got := tells(t, what, opened(t, what, rooted(file("f", b))), rooted(file("f", b)))
			if len(got) != 2 || !bytes.Equal(got[1].Data, b) {
				t.Errorf("%s: %s", what, text(got))
			}
		}
	}
}

// P16.3: Tree of Open is the tree in canonical order, and Open of that the same again.

func comesBack(t *testing.T, what string, l []api.Node) {
	t.Helper()
	got := tells(t, what, opened(t, what, l), l)
	tells(t, what+", again", opened(t, what, got), got)
	a, e := build.Build(l)
	b, f := build.Build(got)
	if !bytes.Equal(a, b) || e != api.OK || f != api.OK {
		t.Errorf("%s: another image: errors %d, %d", what, e, f)
	}
}

func TestTreeOfOpen(t *testing.T) {
	for what, l := range trees() {
		comesBack(t, what, l)
	}
	for what, l := range greatTrees() {
		comesBack(t, what, l)
	}
	for seed := range uint32(300) {
		comesBack(t, fmt.Sprint("any tree, ", seed), anyTree(seed))
	}
}

// broken is an image of which the byte at is turned: Tree tells ErrIO of it; or Mount, as it is no image any more, and then false is told.
func broken(t *testing.T, what string, b []byte, at ...int) bool {
	t.Helper()
	b = slices.Clone(b)
	for _, at := range at {
		b[at] ^= 16
	}
	m, e := mount.Mount(b)
	if e != api.OK {
		return false
	}
	refuses(t, fmt.Sprintf("%s, turned at %d", what, at), m, api.ErrIO)
	return true
}

// parts are the bytes of an image, where its files' blocks end and its fragments begin, and where these end. The tree has neither holes nor files that share blocks.
func parts(t *testing.T, l []api.Node) (b []byte, frags, end int) {
	t.Helper()
	b, e := build.Build(l)
	sums := crc.New()
	s, f := super.Take(&sums, b)
	if e != api.OK || f != api.OK {
		t.Fatalf("errors %d, %d", e, f)
	}
	inos := map[int]int{}
	frags = api.SuperSize
	for _, n := range l {
		inos[n.Ino]++
		if inos[n.Ino] == 1 {
			frags += len(n.Data) / api.Block * (api.Block + 7) // bytes that do not pack, with a head and a sum
		}
	}
	return b, frags, s.InodeAt
}

func TestTreeOfTurnedBytes(t *testing.T) {
	for what, l := range map[string][]api.Node{
		"a block": rooted(file("a", mixed(1, 128))), "a tail": rooted(file("a", mixed(1, 100))), "both": rooted(file("a", mixed(1, 300))),
		"a file in a directory": rooted(dir("a"), dir("a/b"), file("a/b/c", mixed(1, 300)), file("z", nil)), "a file behind others": rooted(file("a", nil), dir("b"), link("c", "t"), file("d", mixed(1, 200))),
		"several": rooted(file("a", mixed(1, 140)), file("b", mixed(2, 140)), file("c", mixed(3, 140))), "a world": world(),
	} {
		b, frags, end := parts(t, l)
		inBlocks, inFrags := 0, 0
		for at := api.SuperSize; at < end; at++ {
			if !broken(t, what, b, at) {
				continue
			}
			if at < frags {
				inBlocks++
			} else {
				inFrags++
			}
		}
		if inBlocks < (frags-64)*9/10 || inFrags < (end-frags)*9/10 || end == 64 {
			t.Errorf("%s: %d bytes of %d of blocks, %d of %d of fragments", what, inBlocks, frags-64, inFrags, end-frags)
		}
		for at := api.SuperSize; at < end; at += 3 {
			for other := at + 50; other < end; other += 97 {
				broken(t, what, b, at, other)
			}
		}
	}
}

// TestTreeOfTheFirstFileThatIsBroken: of one image two files are broken, whose errors a wrapper makes others.
func TestTreeOfTheFirstFileThatIsBroken(t *testing.T) {
	l := canon(t, "files", rooted(dir("a"), file("a/b", mixed(1, 128)), file("a-b", mixed(2, 128)), file("c", mixed(3, 128))))
	b, _, _ := parts(t, l)
	const frame = api.Block + 7
	for first := range 3 {
		for second := first + 1; second < 3; second++ {
			turned := slices.Clone(b)
			turned[api.SuperSize+first*frame+20] ^= 1
			turned[api.SuperSize+second*frame+20] ^= 1
			m, e := mount.Mount(turned)
			if e != api.OK {
				t.Fatal(e)
			}
			refuses(t, "two files", m, api.ErrIO)
			refs := map[int]api.Errno{}
			for i, path := range []string{"a/b", "a-b", "c"} {
				refs[finds(t, "two files", m, named(path), api.OK)] = api.Errno(100 + i)
			}
			refuses(t, fmt.Sprint("files ", first, " and ", second), renamed{m, refs}, api.Errno(100+first))
		}
	}
}

// renamed is an image whose errors of Read are others, by ref.
type renamed struct {
	*mount.Image
	errors map[int]api.Errno
}

func (r renamed) Read(ref, off, n int) ([]byte, api.Errno) {
	b, e := r.Image.Read(ref, off, n)
	if e != api.OK {
		e = r.errors[ref]
	}
	return b, e
}

// A branch that is none of ours.

func TestTreeOfStrangers(t *testing.T) {
	for what, l := range trees() {
		l = canon(t, what, l)
		for scheming, scheme := range refSchemes() {
			tells(t, what+", "+scheming, strange(l, scheme), l)
		}
		tells(t, what+", an image in something", wrapped{opened(t, what, l)}, l)
	}
	for seed := range uint32(200) {
		l := canon(t, "any tree", anyTree(seed))
		for scheming, scheme := range refSchemes() {
			tells(t, fmt.Sprint("any tree, ", seed, ", ", scheming), strange(l, scheme), l)
		}
	}
}

// TestTreeOfListsThatFall: in whatever order a branch lists, the nodes come in canonical order, and its lists stay as they are.
func TestTreeOfListsThatFall(t *testing.T) {
	for what, l := range trees() {
		l = canon(t, what, l)
		for turn := range 3 {
			s := strange(l, func(i int) int { return 10 - i })
			c := chance(turn)
			before := map[int][]api.Entry{}
			for ref, x := range s.nodes {
				slices.Reverse(x.list)
				for i := range x.list {
					if k := c.below(i + 1); turn > 0 {
						x.list[i], x.list[k] = x.list[k], x.list[i]
					}
				}
				before[ref] = slices.Clone(x.list)
			}
			tells(t, what, s, l)
			for ref, x := range s.nodes {
				if !slices.Equal(x.list, before[ref]) {
					t.Errorf("%s: a branch's own list is in another order", what)
				}
			}
		}
	}
}

// tellsJust is of a branch that tells of more than an image may have; l is in canonical order.
func tellsJust(t *testing.T, what string, b image.Branch, l []api.Node) {
	t.Helper()
	if got, e := image.Tree(b); !sameNodes(got, l) || e != api.OK {
		t.Errorf("%s: Tree: error %d\n%s\nwanted\n%s", what, e, text(got), text(l))
	}
}

// TestTreeOfMore: Tree tells what the branch tells, and holds it against no bounds of images: these are Build's.
func TestTreeOfMore(t *testing.T) {
	for what, l := range map[string][]api.Node{
		"a file of 10000 bytes": rooted(file("f", mixed(1, 10000))), "40 names": chain(40), "3000 files": rooted(manyFiles(3000, 1)...),
		"a White": rooted(dir("d"), api.Node{Names: named("d/w"), Kind: api.White}, file("e", nil)), "a Mode of 4095": rooted(attr(file("a", nil), 4095, -1, 1<<40)),
	} {
		for scheming, scheme := range refSchemes() {
			if what != "3000 files" || scheming != "refs in no order" {
				tellsJust(t, what+", "+scheming, strange(l, scheme), l)
			}
		}
	}
}

// TestTreeOfADirectoryOfTwoNames: of a branch that has one ref under several names all of them are told, with one Ino, of a directory too.
func TestTreeOfADirectoryOfTwoNames(t *testing.T) {
	s := strange(rooted(dir("d"), file("d/f", []byte("hi"))), func(i int) int { return -i })
	root := s.nodes[0]
	root.list = append(root.list, api.Entry{Name: "e", Kind: api.Dir, Ref: -1}, api.Entry{Name: "f", Kind: api.File, Ref: -2})
	tellsJust(t, "a directory of two names", s, []api.Node{
		attr(one(-1, dir("")), 493, 0, 0), one(-2, dir("d")), one(-3, file("d/f", []byte("hi"))), one(-2, dir("e")), one(-3, file("e/f", []byte("hi"))), one(-3, file("f", []byte("hi"))),
	})
}

// asked is whether Tree needs a call of a node of that kind.
func asked(c call, kind int) bool {
	switch c {
	case callStat, callXattrs:
		return true
	case callList:
		return kind == api.Dir
	case callRead:
		return kind == api.File
	case callTarget:
		return kind == api.Link
	}
	return false
}

// TestTreeTellsEachError: each call of each node alone tells an error; where it is needed Tree tells it, with nothing beside it, and else the tree is told.
func TestTreeTellsEachError(t *testing.T) {
	l := canon(t, "a world", world())
	ref := func(i int) int { return 40 - 9*i }
	for c := range calls {
		for _, n := range l {
			for i, e := range []api.Errno{api.ErrIO, api.ErrArg, api.ErrNone, api.ErrNotDir, 99, -1} {
				s := strange(l, ref)
				s.loose = i%2 == 0
				s.failing(c, ref(n.Ino-1), e)
				what := fmt.Sprintf("the call %d of %q", c, n.Names)
				if asked(c, n.Kind) {
					refuses(t, what, s, e)
				} else {
					tells(t, what, s, l)
				}
			}
		}
		s := strange(l, ref)
		s.failingAll(c, api.ErrIO)
		if c == callLook {
			tells(t, "each Look", s, l)
		} else {
			refuses(t, fmt.Sprint("the call ", c, " of all"), s, api.ErrIO)
		}
	}
}

// TestTreeTellsTheFirstError: of two nodes' errors that of the one that comes first, in canonical order.
func TestTreeTellsTheFirstError(t *testing.T) {
	l := canon(t, "a world", world())
	ref := func(i int) int { return 100 - i }
	for i, first := range l {
		for _, second := range l[i+1:] {
			if first.Ino == second.Ino {
				continue
			}
			for c := range calls {
				for d := range calls {
					if !asked(c, first.Kind) || !asked(d, second.Kind) {
						continue
					}
					want, later := api.Errno(50), api.Errno(60)
					if slices.ContainsFunc(l[:i], func(n api.Node) bool { return n.Ino == second.Ino }) {
						want = later // it has another name, ahead of the first
					}
					s := strange(l, ref)
					s.failing(c, ref(first.Ino-1), 50)
					s.failing(d, ref(second.Ino-1), later)
					refuses(t, fmt.Sprintf("the call %d of %q, then %d of %q", c, first.Names, d, second.Names), s, want)
				}
			}
		}
	}
}

// TestTreeEnds: a directory that is within itself is in no tree.
func TestTreeEnds(t *testing.T) {
	l := canon(t, "a world", world())
	for _, path := range []string{"", "o", "o/p", "o/p/q", "d", "d/e"} {
		for _, above := range []string{"", "o", "o/p", "o/p/q", "d"} {
			at, _ := where(l, named(path))
			to, _ := where(l, named(above))
			if len(named(above)) > len(named(path)) || !slices.Equal(named(above), named(path)[:len(named(above))]) {
				continue
			}
			s := strange(l, func(i int) int { return i })
			s.nodes[at-1].list = append(s.nodes[at-1].list, api.Entry{Name: "loop", Kind: api.Dir, Ref: to - 1})
			refuses(t, fmt.Sprintf("%q within %q", above, path), s, api.ErrLinks)
		}
	}
}
