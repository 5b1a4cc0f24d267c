package build_test

import (
	"bytes"
	"cmp"
	"encoding/hex"
	"fmt"
	"slices"
	"strings"
	"testing"

	"lamella/api"
	"lamella/build"
	"lamella/crc"
	"lamella/frame"
	"lamella/meta"
	"lamella/super"
	"lamella/tree"
)

// mixed is n bytes of an alphabet of so many letters, the same ones in each run of the tests; none of them is a nought.
func mixed(seed uint32, n, letters int) []byte {
	b := make([]byte, n)
	for i := range b {
		seed = seed*1664525 + 1013904223
		b[i] = byte(1 + int(seed>>16)%letters)
	}
	return b
}

// rising is n bytes whose blocks pack to more, so that their frames are stored: each has 135 bytes.
func rising(n int) []byte {
	b := make([]byte, n)
	for i := range b {
		b[i] = byte(i)
	}
	return b
}

// spelt is of "2a1b" the bytes aab.
func spelt(s string) []byte {
	var b []byte
	n := 0
	for _, c := range []byte(s) {
		if c <= '9' {
			n = 10*n + int(c-'0')
			continue
		}
		b = append(b, bytes.Repeat([]byte{c}, n)...)
		n = 0
	}
	return b
}

func newTable() *crc.Table {
	t := crc.New()
	return &t
}

// named is a node's names, out of a path without a slash ahead; of the root "".
func named(path string) []string {
	if path == "" {
		return nil
	}
	return strings.Split(path, "/")
}

func dir(path string) api.Node { return api.Node{Names: named(path), Kind: api.Dir} }

func file(path string, b []byte) api.Node {
	return api.Node{Names: named(path), Kind: api.File, Data: b}
}

func link(path, target string) api.Node {
	return api.Node{Names: named(path), Kind: api.Link, Target: target}
}

func moded(n api.Node, mode int) api.Node {
	n.Attr.Mode = mode
	return n
}

func owned(n api.Node, uid, gid int) api.Node {
	n.Attr.Uid, n.Attr.Gid = uid, gid
	return n
}

func attributed(n api.Node, l ...api.Xattr) api.Node {
	n.Xattrs = l
	return n
}

// numbered is a node with an Ino below 0: those of one number are one.
func numbered(n api.Node, number int) api.Node {
	n.Ino = -number
	return n
}

// rooted is these nodes and a root; each that is not numbered gets an Ino of its own.
func rooted(nodes ...api.Node) []api.Node {
	l := append([]api.Node{dir("")}, nodes...)
	for i := range l {
		if l[i].Ino == 0 {
			l[i].Ino = i + 1
		}
	}
	return l
}

func xattr(name, value string) api.Xattr { return api.Xattr{Name: name, Value: []byte(value)} }

func sized(name string, size int) api.Xattr { return xattr(name, strings.Repeat("v", size)) }

func built(t *testing.T, what string, l []api.Node) []byte {
	t.Helper()
	image, e := build.Build(l)
	if e != api.OK {
		t.Fatalf("%s: Build: error %d", what, e)
	}
	return image
}

func refuses(t *testing.T, what string, l []api.Node, want api.Errno) {
	t.Helper()
	if image, e := build.Build(l); e != want || image != nil {
		t.Errorf("%s: Build: %d bytes, error %d; wanted no image and %d", what, len(image), e, want)
	}
}

func superOf(t *testing.T, what string, image []byte) api.Super {
	t.Helper()
	s, e := super.Take(newTable(), image)
	if e != api.OK {
		t.Fatalf("%s: no superblock: error %d", what, e)
	}
	return s
}

// parts are what the frames of an image hold, from the inodes on, and its blocks as they stand.
type parts struct{ blocks, inodes, lists, places, owners, xattrs []byte }

func partsOf(t *testing.T, what string, image []byte) (api.Super, parts) {
	t.Helper()
	s := superOf(t, what, image)
	return s, parts{
		blocks: image[64:s.InodeAt],
		inodes: held(t, what+": inodes", image[:s.DirAt], s.InodeAt),
		lists:  held(t, what+": lists", image[:s.FragAt], s.DirAt),
		places: held(t, what+": places", image[:s.IDAt], s.FragAt),
		owners: held(t, what+": owners", image[:s.XattrAt], s.IDAt),
		xattrs: held(t, what+": attributes", image, s.XattrAt),
	}
}

// held is what a row's frames hold, from a place on to the end of b: none of them is a hole, and all but the last one are full.
func held(t *testing.T, what string, b []byte, at int) []byte {
	t.Helper()
	var all []byte
	for at < len(b) {
		block, next, e := frame.Take(newTable(), b, at)
		if e != api.OK || len(block) == 0 || len(block) < 128 && next != len(b) {
			t.Fatalf("%s: at %d: % x, next %d of %d, error %d", what, at, block, next, len(b), e)
		}
		all, at = append(all, block...), next
	}
	return all
}

// holds takes bytes in hexadecimal, with blanks between them as one likes.
func holds(t *testing.T, what string, got []byte, want string) {
	t.Helper()
	b, err := hex.DecodeString(strings.Join(strings.Fields(want), ""))
	if err != nil {
		t.Fatal(err)
	}
	if !bytes.Equal(got, b) {
		t.Errorf("%s: % x, wanted % x", what, got, b)
	}
}

func frameOf(b []byte) []byte {
	f, e := frame.Put(newTable(), b)
	if e != api.OK {
		panic("no frame of so many bytes")
	}
	return f
}

func rowOf(b []byte) []byte {
	w := meta.New(newTable())
	w.Add(b)
	return w.Done()
}

func TestExampleOfTheChapter(t *testing.T) {
	image := built(t, "a root alone", []api.Node{{Kind: api.Dir}})
	s, p := partsOf(t, "a root alone", image)
	if s.Inodes != 1 || s.IDs != 1 || s.Frags != 0 || s.InodeAt != 64 {
		t.Errorf("%+v", s)
	}
	holds(t, "inodes", p.inodes, "01 0000 0000 0000 0100 00000000 00000000 00000000")
	holds(t, "lists", p.lists, "")
	holds(t, "places", p.places, "")
	holds(t, "owners", p.owners, "0000")
	holds(t, "attributes", p.xattrs, "")
	inodes, owners := frameOf(p.inodes), frameOf(p.owners)
	end := 64 + len(inodes)
	want := api.Super{
		Size: end + len(owners), Inodes: 1, InodeAt: 64, DirAt: end, FragAt: end, IDAt: end, XattrAt: end + len(owners), IDs: 1,
	}
	if s != want {
		t.Errorf("superblock %+v, wanted %+v", s, want)
	}
	first, _ := super.Put(newTable(), want)
	if !bytes.Equal(image, slices.Concat(first, inodes, owners)) {
		t.Errorf("% x", image)
	}
}

func TestRootsAlone(t *testing.T) {
	for _, x := range []struct {
		root           api.Node
		inodes, owners string
	}{
		{moded(dir(""), 1), "01 0100 0000 0000 0100 00000000 00000000 00000000", "0000"},
		{moded(dir(""), 0o755), "01 ed01 0000 0000 0100 00000000 00000000 00000000", "0000"},
		{moded(dir(""), 511), "01 ff01 0000 0000 0100 00000000 00000000 00000000", "0000"},
		{owned(dir(""), 7, 7), "01 0000 0000 0000 0100 00000000 00000000 00000000", "0700"},
		{owned(dir(""), 7, 0), "01 0000 0100 0000 0100 00000000 00000000 00000000", "0000 0700"},
		{owned(dir(""), 7, 65535), "01 0000 0000 0100 0100 00000000 00000000 00000000", "0700 ffff"},
	} {
		_, p := partsOf(t, "a root alone", built(t, "a root alone", []api.Node{x.root}))
		holds(t, "inodes", p.inodes, x.inodes)
		holds(t, "owners", p.owners, x.owners)
		if len(p.blocks) != 0 || len(p.lists) != 0 || len(p.places) != 0 || len(p.xattrs) != 0 {
			t.Errorf("%+v: %+v", x.root, p)
		}
	}
}

// TestSmallTree: one node of each kind in one directory, each byte of which was written down by hand.
func TestSmallTree(t *testing.T) {
	l := rooted(
		moded(owned(file("d/f", append(rising(128), "tail"...)), 300, 5), 0o644),
		moded(attributed(owned(link("d/l", "f"), 5, 5), xattr("u", "v")), 0o777),
		moded(owned(dir("d"), 0, 300), 0o700),
	)
	image := built(t, "a small tree", l)
	s, p := partsOf(t, "a small tree", image)
	blocks := slices.Concat(frameOf(rising(128)), frameOf([]byte("tail")))
	if !bytes.Equal(p.blocks, blocks) {
		t.Errorf("blocks % x, wanted % x", p.blocks, blocks)
	}
	// f at 0 with 22 bytes, l at 22 with 15, d at 37 with 21, the root at 58
	holds(t, "inodes", p.inodes, `
		02 a401 0200 0100 0100 00000000  40000000 8400 0100 00
		03 ff01 0100 0100 0100 01000000  01 66
		01 c001 0000 0200 0100 00000000  00000000 0e000000
		01 0000 0000 0000 0100 00000000  0e000000 07000000`)
	holds(t, "lists", p.lists, "01 66 02 00000000  01 6c 03 16000000  01 64 01 25000000")
	holds(t, "places", p.places, "c7000000") // 64 and 135
	holds(t, "owners", p.owners, "0000 0500 2c01")
	holds(t, "attributes", p.xattrs, "01 01 75 01 76")
	ends := []int{64 + len(blocks)}
	for _, b := range [][]byte{p.inodes, p.lists, p.places, p.owners, p.xattrs} {
		ends = append(ends, ends[len(ends)-1]+len(frameOf(b)))
	}
	want := api.Super{
		Size: ends[5], Inodes: 4, InodeAt: ends[0], DirAt: ends[1], FragAt: ends[2], IDAt: ends[3], XattrAt: ends[4],
		IDs: 3, Frags: 1, Root: 58,
	}
	if s != want || len(image) != ends[5] {
		t.Errorf("superblock %+v, wanted %+v; %d bytes", s, want, len(image))
	}
}

// Errors.

func TestNoNodes(t *testing.T) {
	refuses(t, "nil", nil, api.ErrRoot)
	refuses(t, "none", []api.Node{}, api.ErrRoot)
}

// TestErrorsOfTrees: each is Canon's, also where several apply.
func TestErrorsOfTrees(t *testing.T) {
	long := strings.Repeat("n", 256)
	deep := strings.Repeat("d/", 16) + "d"
	for _, x := range []struct {
		what string
		want api.Errno
		l    []api.Node
	}{
		{"1025 nodes", api.ErrBig, rooted(manyFiles(1024, 0)...)},
		{"1025 nodes that are none", api.ErrBig, make([]api.Node, 1025)},
		{"a long name", api.ErrLong, rooted(file(long, nil))},
		{"an empty name", api.ErrName, rooted(api.Node{Names: []string{""}, Kind: api.File})},
		{"a name with a slash", api.ErrName, rooted(api.Node{Names: []string{"a/b"}, Kind: api.File})},
		{"a name with a nought", api.ErrName, rooted(file("a\x00", nil))},
		{"names . and ..", api.ErrName, rooted(file(".", nil), dir(".."))},
		{"a name, ahead of a long one", api.ErrName, rooted(file("..", nil), file(long, nil))},
		{"17 names", api.ErrDeep, rooted(file(deep, nil))},
		{"the same names", api.ErrTwice, rooted(file("a", nil), dir("a"))},
		{"two roots", api.ErrTwice, rooted(dir(""))},
		{"no root", api.ErrRoot, []api.Node{file("a", nil)}},
		{"a root that is a file", api.ErrRoot, []api.Node{file("", nil)}},
		{"a directory that is not there", api.ErrParent, rooted(file("a/b", nil))},
		{"a file that is gone through", api.ErrParent, rooted(file("a", nil), file("a/b", nil))},
		{"no kind", api.ErrKind, rooted(api.Node{Names: []string{"a"}})},
		{"a White", api.ErrKind, rooted(api.Node{Names: []string{"a"}, Kind: api.White})},
		{"a Mode of 512", api.ErrKind, []api.Node{moded(dir(""), 512)}},
		{"a Mode of -1", api.ErrKind, []api.Node{moded(dir(""), -1)}},
		{"a Uid of 65536", api.ErrKind, rooted(owned(file("a", nil), 65536, 0))},
		{"a Gid of -1", api.ErrKind, rooted(owned(file("a", nil), 0, -1))},
		{"a file of 4097 bytes", api.ErrKind, rooted(file("a", make([]byte, 4097)))},
		{"a directory with Data", api.ErrKind, []api.Node{{Kind: api.Dir, Data: []byte("a")}}},
		{"a file with a Target", api.ErrKind, rooted(api.Node{Names: []string{"a"}, Kind: api.File, Target: "b"})},
		{"a symbolic link without a Target", api.ErrKind, rooted(link("a", ""))},
		{"a Target of 201 bytes", api.ErrKind, rooted(link("a", strings.Repeat("t", 201)))},
		{"a Target with a nought", api.ErrKind, rooted(link("a", "t\x00"))},
		{"nine Xattrs", api.ErrKind, rooted(attributed(file("a", nil), nXattrs(9, 1)...))},
		{"Xattrs in another order", api.ErrKind, rooted(attributed(file("a", nil), xattr("b", ""), xattr("a", "")))},
		{"an Xattr twice", api.ErrKind, rooted(attributed(file("a", nil), xattr("a", ""), xattr("a", "")))},
		{"an Xattr without a name", api.ErrKind, rooted(attributed(file("a", nil), xattr("", "v")))},
		{"an Xattr's name of 41 bytes", api.ErrKind, rooted(attributed(dir("a"), xattr(strings.Repeat("n", 41), "")))},
		{"an Xattr's value of 201 bytes", api.ErrKind, rooted(attributed(link("a", "b"), sized("n", 201)))},
		{"a directory that is Opaque", api.ErrKind, []api.Node{{Kind: api.Dir, Opaque: true}}},
		{"directories of one Ino", api.ErrLinks, rooted(numbered(dir("a"), 1), numbered(dir("b"), 1))},
		{"files of one Ino that differ", api.ErrLinks, rooted(numbered(file("a", nil), 1), numbered(file("b", []byte("b")), 1))},
		{"of one Ino, of two kinds", api.ErrLinks, []api.Node{dir(""), file("a", nil)}},
		{"too deep, and of no kind", api.ErrDeep, rooted(file(deep, make([]byte, 5000)))},
		{"no parent, and of no kind", api.ErrParent, rooted(file("a/b", make([]byte, 5000)))},
		{"too much, and of no kind", api.ErrKind, rooted(append(manyFiles(400, 4096), moded(dir("z"), 512))...)},
	} {
		refuses(t, x.what, x.l, x.want)
		if _, e := tree.Canon(x.l); e != x.want {
			t.Errorf("%s: Canon: error %d, wanted %d", x.what, e, x.want)
		}
	}
}

// manyFiles are so many files of so many bytes each, which do not pack; no two have a block in common.
func manyFiles(many, size int) []api.Node {
	var l []api.Node
	for i := range many {
		l = append(l, file(fmt.Sprintf("f%04d", i), mixed(uint32(i), size, 255)))
	}
	return l
}

func nXattrs(many, size int) []api.Xattr {
	var l []api.Xattr
	for i := range many {
		l = append(l, sized(fmt.Sprintf("x%d", i), size))
	}
	return l
}

// P14.3.

// TestAnyOrder: a tree's nodes in any order, with whatever Inos, come to one image.
func TestAnyOrder(t *testing.T) {
	for what, l := range trees() {
		want := built(t, what, l)
		for seed := range uint32(8) {
			if other := built(t, what, shuffled(seed, l)); !bytes.Equal(other, want) {
				t.Errorf("%s: in another order (%d) another image", what, seed)
			}
		}
		slices.Reverse(l)
		if other := built(t, what, l); !bytes.Equal(other, want) {
			t.Errorf("%s: backward another image", what)
		}
	}
}

// TestEachOrder: of six nodes.
func TestEachOrder(t *testing.T) {
	l := rooted(
		file("a", spelt("130a")),
		numbered(file("b", spelt("128b20c")), 1),
		dir("c"),
		numbered(file("c/a", spelt("128b20c")), 1),
		attributed(owned(link("c/b", "a"), 4, 3), xattr("n", "v")),
	)
	want := slow(l)
	for order := range 720 {
		rest, ordered := slices.Clone(l), []api.Node(nil)
		for n := len(rest); n > 0; n-- {
			ordered = append(ordered, rest[order%n])
			rest = slices.Delete(rest, order%n, order%n+1)
			order /= n
		}
		if !bytes.Equal(built(t, "six nodes", ordered), want) {
			t.Fatalf("%v: another image", ordered)
		}
	}
}

// shuffled is the nodes in another order, with other Inos that rise, fall or have gaps, some of them below 0.
func shuffled(seed uint32, l []api.Node) []api.Node {
	inos := []int{0, -1, 1 << 62, -1 << 63, 1<<63 - 1}
	fresh := map[int]int{}
	other := slices.Clone(l)
	for i := len(other) - 1; i > 0; i-- {
		seed = seed*1664525 + 1013904223
		k := int(seed>>8) % (i + 1)
		other[i], other[k] = other[k], other[i]
	}
	for i, n := range other {
		if _, ok := fresh[n.Ino]; !ok {
			fresh[n.Ino] = 5000 - 3*i
			if i < len(inos) {
				fresh[n.Ino] = inos[(i+int(seed>>8))%len(inos)]
			}
		}
		other[i].Ino = fresh[n.Ino]
	}
	return other
}

func TestAtMostMost(t *testing.T) {
	for what, l := range trees() {
		if n, most := len(built(t, what, l)), build.Most(l); n > most {
			t.Errorf("%s: %d bytes, of at most %d", what, n, most)
		}
	}
}

// TestOtherTreesHaveOtherImages: each of these trees has something else than all others, if only a little.
func TestOtherTreesHaveOtherImages(t *testing.T) {
	seen := map[string]string{}
	for what, l := range trees() {
		for at, l := range turned(l) {
			what := fmt.Sprint(what, ", ", at)
			image := string(built(t, what, l))
			nodes, _ := tree.Canon(l)
			text := fmt.Sprintf("%+v", nodes)
			if other, ok := seen[image]; ok && other != text {
				t.Errorf("%s: the image of another tree", what)
			}
			seen[image] = text
		}
	}
}

// turned is a tree, and ones of which one thing of its first, middle or last node is another one.
func turned(l []api.Node) map[string][]api.Node {
	all := map[string][]api.Node{"as it is": l}
	for _, i := range []int{0, len(l) / 2, len(l) - 1} {
		for what, turn := range turns() {
			other := slices.Clone(l)
			other[i] = turn(other[i])
			if tree.Check(other) == api.OK {
				all[fmt.Sprint(what, " of ", i)] = other
			}
		}
	}
	return all
}

func turns() map[string]func(n api.Node) api.Node {
	return map[string]func(n api.Node) api.Node{
		"Mode": func(n api.Node) api.Node { n.Attr.Mode ^= 1; return n },
		"Uid":  func(n api.Node) api.Node { n.Attr.Uid ^= 1; return n },
		"Gid":  func(n api.Node) api.Node { n.Attr.Gid ^= 1; return n },
		"both": func(n api.Node) api.Node { n.Attr.Uid, n.Attr.Gid = n.Attr.Gid, n.Attr.Uid; return n },
		"Ino":  func(n api.Node) api.Node { n.Ino = 77777; return n },
		"name": func(n api.Node) api.Node {
			n.Names = slices.Clone(n.Names)
			if last := len(n.Names) - 1; last >= 0 {
				n.Names[last] = "~" + strings.TrimPrefix(n.Names[last], n.Names[last][:1])
			}
			return n
		},
		"Target":  func(n api.Node) api.Node { n.Target = strings.Repeat("x", len(n.Target)); return n },
		"shorter": func(n api.Node) api.Node { n.Data = n.Data[:max(len(n.Data)-1, 0)]; return n },
		"longer":  func(n api.Node) api.Node { n.Data = append(slices.Clone(n.Data), 0); return n },
		"first byte": func(n api.Node) api.Node {
			n.Data = slices.Clone(n.Data)
			if len(n.Data) > 0 {
				n.Data[0] ^= 64
			}
			return n
		},
		"last byte": func(n api.Node) api.Node {
			n.Data = slices.Clone(n.Data)
			if len(n.Data) > 0 {
				n.Data[len(n.Data)-1] ^= 64
			}
			return n
		},
		"Xattrs": func(n api.Node) api.Node {
			n.Xattrs = append(slices.Clone(n.Xattrs), xattr("~", ""))
			return n
		},
		"fewer Xattrs": func(n api.Node) api.Node { n.Xattrs = n.Xattrs[:max(len(n.Xattrs)-1, 0)]; return n },
		"value": func(n api.Node) api.Node {
			n.Xattrs = slices.Clone(n.Xattrs)
			for i := range n.Xattrs {
				n.Xattrs[i].Value = []byte("~")
			}
			return n
		},
		"kind": func(n api.Node) api.Node {
			if n.Kind == api.File && len(n.Data) == 0 {
				n.Kind = api.Dir
			}
			return n
		},
	}
}

// R6, R7.

// roomy is a copy of nodes of which each list has spare room, with something in it.
func roomy(l []api.Node) []api.Node {
	out := withRoom(l, api.Node{Names: []string{"spare"}, Kind: 9})
	for i, n := range out {
		n.Names = withRoom(n.Names, "spare")
		n.Data = withRoom(n.Data, 0xee)
		n.Xattrs = withRoom(n.Xattrs, xattr("spare", "spare"))
		for k, x := range n.Xattrs {
			n.Xattrs[k].Value = withRoom(x.Value, 0xee)
		}
		out[i] = n
	}
	return out
}

func withRoom[T any](l []T, spare T) []T {
	out := slices.Concat(l, []T{spare, spare, spare})
	return out[:len(l)]
}

// spread is all that nodes hold, their lists' spare room too.
func spread(l []api.Node) string {
	var b strings.Builder
	for _, n := range l[:cap(l)] {
		fmt.Fprint(&b, n.Names[:cap(n.Names)], n.Ino, n.Kind, n.Attr, n.Data[:cap(n.Data)], n.Target, n.Opaque, ";")
		for _, x := range n.Xattrs[:cap(n.Xattrs)] {
			fmt.Fprint(&b, x.Name, x.Value[:cap(x.Value)], ";")
		}
	}
	return b.String()
}

func TestWhatIsHandedInStays(t *testing.T) {
	for what, l := range trees() {
		slices.Reverse(l)
		l = roomy(l)
		before := spread(l)
		image := built(t, what, l)
		build.Most(l)
		overwrite(image)
		if spread(l) != before {
			t.Errorf("%s: the nodes were changed, or their spare room, or share bytes with the image", what)
		}
	}
	wrong := roomy(append(rooted(file("b", nil), file("a", nil)), moded(dir("z"), 512)))
	before := spread(wrong)
	build.Build(wrong)
	build.Most(wrong)
	if spread(wrong) != before {
		t.Error("the nodes were changed beside an error")
	}
}

// overwrite is of bytes and their spare room.
func overwrite(b []byte) {
	b = b[:cap(b)]
	for i := range b {
		b[i] = 0xdd
	}
}

// TestNothingIsKept: what is written later into the nodes, or into an image, is seen in no other image.
func TestNothingIsKept(t *testing.T) {
	for what, l := range trees() {
		l = roomy(l)
		one, two := built(t, what, l), built(t, what, l)
		want := slices.Clone(one)
		again := roomy(l)
		overwrite(one)
		for _, n := range l {
			overwrite(n.Data)
			for _, x := range n.Xattrs {
				overwrite(x.Value)
			}
			clear(n.Names)
			clear(n.Xattrs)
		}
		clear(l)
		if !bytes.Equal(two, want) {
			t.Errorf("%s: the image shares bytes with the nodes, or with another image", what)
		}
		if !bytes.Equal(built(t, what, again), want) {
			t.Errorf("%s: another image the second time", what)
		}
	}
}

// TestEmptyListsAreNone: whether a list is nil or empty, and its room, is not seen.
func TestEmptyListsAreNone(t *testing.T) {
	bare := rooted(dir("d"), file("f", nil), link("l", "t"), attributed(file("x", nil), api.Xattr{Name: "n"}))
	want := built(t, "nil", bare)
	full := roomy(bare)
	for i := range full {
		full[i].Names = slices.Concat(full[i].Names, []string{})
		full[i].Data = make([]byte, 0, 5)
		if len(full[i].Xattrs) == 0 {
			full[i].Xattrs = []api.Xattr{}
		}
	}
	full[0].Names = []string{}
	full[4].Xattrs[0].Value = []byte{}
	if !bytes.Equal(built(t, "empty", full), want) {
		t.Error("of empty lists another image than of none")
	}
}

// byNames is the canonical order, of nodes whose names may be.
func byNames(a, b api.Node) int {
	for i := range min(len(a.Names), len(b.Names)) {
		if c := strings.Compare(a.Names[i], b.Names[i]); c != 0 {
			return c
		}
	}
	return cmp.Compare(len(a.Names), len(b.Names))
}
