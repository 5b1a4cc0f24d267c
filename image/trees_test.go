package image_test

import (
	"bytes"
	"fmt"
	"slices"
	"strings"
	"testing"

	"lamella/api"
	"lamella/image"
	"lamella/mount"
	"lamella/tree"
)

// mixed is n bytes, the same ones in each run of the tests; none of them is a nought, and they do not pack.
func mixed(seed uint32, n int) []byte {
	b := make([]byte, n)
	for i := range b {
		seed = seed*1664525 + 1013904223
		b[i] = byte(1 + int(seed>>16)%255)
	}
	return b
}

// named is a node's names, out of a path without a slash ahead; of the root "".
func named(path string) []string {
	if path == "" {
		return nil
	}
	return strings.Split(path, "/")
}

func dir(path string) api.Node { return api.Node{Names: named(path), Kind: api.Dir} }

func file(path string, b []byte) api.Node {
	return api.Node{Names: named(path), Kind: api.File, Data: b}
}

func link(path, target string) api.Node {
	return api.Node{Names: named(path), Kind: api.Link, Target: target}
}

func attr(n api.Node, mode, uid, gid int) api.Node {
	n.Attr = api.Attr{Mode: mode, Uid: uid, Gid: gid}
	return n
}

func attributed(n api.Node, l ...api.Xattr) api.Node {
	n.Xattrs = l
	return n
}

// one is a node with an Ino below 0: those of one number are one.
func one(number int, n api.Node) api.Node {
	n.Ino = -number
	return n
}

// rooted is these nodes and a root; each that has no Ino yet gets one of its own.
func rooted(nodes ...api.Node) []api.Node {
	l := append([]api.Node{attr(dir(""), 493, 0, 0)}, nodes...)
	for i := range l {
		if l[i].Ino == 0 {
			l[i].Ino = i + 1
		}
	}
	return l
}

func xattr(name, value string) api.Xattr { return api.Xattr{Name: name, Value: []byte(value)} }

func manyXattrs(many, size int) []api.Xattr {
	var l []api.Xattr
	for i := range many {
		l = append(l, xattr(fmt.Sprint("user.", i), strings.Repeat(string(rune('a'+i)), size)))
	}
	return l
}

// manyFiles are so many files of so many bytes each, of which no two have the same.
func manyFiles(many, size int) []api.Node {
	var l []api.Node
	for i := range many {
		l = append(l, file(fmt.Sprintf("f%04d", i), mixed(uint32(i), size)))
	}
	return l
}

// sizes are those at which something of a file turns.
func sizes() []int { return []int{0, 1, 127, 128, 129, 255, 256, 257, 300, 4095, 4096} }

// world has one of all that there is: empty directories and ones in directories, files with blocks, with a tail, with both and with nothing, ones that are one, in one directory and in several, symbolic links to what is there and what is not, attributes and owners.
func world() []api.Node {
	a := attributed(attr(file("a", mixed(1, 300)), 420, 5, 300), xattr("user.a", "v"), xattr("user.b", ""))
	same := func(path string) api.Node {
		n := one(1, a)
		n.Names = named(path)
		return n
	}
	return rooted(
		same("a"), attributed(attr(dir("d"), 448, 300, 5), xattr("user.d", "of d")), dir("d/e"), same("d/f"), same("d/g"),
		file("b", mixed(2, 128)), file("c", nil), file("d/t", []byte("tail")), dir("empty"),
		attr(link("l", "d"), 511, 7, 7), attributed(link("d/l", "../c"), xattr("n", "v")), one(2, link("m", "nowhere")), one(2, link("empty2", "nowhere")),
		dir("o"), dir("o/p"), dir("o/p/q"), file("o/p/q/r", mixed(3, 50)), same("z"),
	)
}

// trees are ones of all kinds; none is great.
func trees() map[string][]api.Node {
	return map[string][]api.Node{
		"a root alone":                rooted(),
		"a root with all there is":    {attributed(attr(dir(""), 511, 65535, 7), manyXattrs(8, 200)...)},
		"a world":                     world(),
		"a root and a file":           rooted(file("a", []byte("hi"))),
		"files of all sizes":          filesOfAllSizes(),
		"noughts":                     rooted(file("a", make([]byte, 128)), file("b", make([]byte, 4096)), file("c", make([]byte, 500)), file("d", make([]byte, 5))),
		"same blocks":                 rooted(file("a", mixed(1, 256)), file("b", mixed(1, 256)), file("c", mixed(1, 300)), file("d", append(mixed(1, 256), 7))),
		"names of any bytes":          rooted(file("\xff\xfe", nil), file("\x01", nil), dir(" "), link(" /\x80", "\xff"), file(strings.Repeat("n", 255), nil)),
		"names whose paths fall":      rooted(dir("a"), file("a-b", nil), file("a/b", nil), dir("a!"), file("a!/z", nil)),
		"files that are one":          oneFiles(),
		"symbolic links that are one": rooted(dir("d"), one(1, link("d/l", "t")), one(1, link("a", "t")), link("b", "t"), one(1, link("z", "t"))),
		"symbolic links":              rooted(link("a", "t"), link("b", strings.Repeat("t", 200)), link("c", "/\xff\x01")),
		"attributes":                  attributes(),
		"owners":                      owners(),
		"empty directories":           rooted(dir("a"), dir("b"), dir("c"), dir("c/d"), dir("c/d/e"), dir("c/f")),
		"a chain of directories":      chain(16),
		"many names":                  rooted(manyFiles(200, 3)...),
	}
}

func filesOfAllSizes() []api.Node {
	var l []api.Node
	for _, n := range sizes() {
		l = append(l, file(fmt.Sprint("f", n), mixed(uint32(n), n)))
	}
	return rooted(l...)
}

// oneFiles has files of several names, met first above, below, ahead of and behind others.
func oneFiles() []api.Node {
	of := func(number int, path string) api.Node {
		return one(number, attributed(attr(file(path, mixed(uint32(number), 200*number)), number, number, 0), xattr("of", fmt.Sprint(number))))
	}
	return rooted(
		dir("b"), dir("b/b"), dir("y"), dir("y/a"),
		of(1, "a"), of(1, "b/a"), of(1, "z"),
		of(2, "b/b/c"), of(2, "b/c"), of(2, "c"),
		of(3, "y/a/a"), of(3, "y/a/b"), of(3, "y/a/c"), of(3, "x"),
		file("b/b/b", mixed(6, 206)), file("w", mixed(7, 207)),
	)
}

func attributes() []api.Node {
	return rooted(
		attributed(file("a", nil), xattr("n", "v")),
		attributed(dir("b"), xattr("n", "v"), xattr("o", "")),
		attributed(link("b/a", "t"), xattr("n", "v")),
		attributed(file("c", nil), manyXattrs(8, 200)...),
		attributed(dir("d"), manyXattrs(8, 0)...),
		attributed(link("e", "t"), manyXattrs(8, 31)...),
		attributed(file("f", nil), xattr(strings.Repeat("n", 40), "\x00\xff")),
		dir("i"), file("j", nil), link("k", "t"),
	)
}

func owners() []api.Node {
	return rooted(
		attr(file("a", nil), 0, 65535, 0), attr(file("b", nil), 511, 0, 65535), attr(dir("c"), 448, 500, 500),
		attr(link("c/d", "t"), 1, 256, 255), attr(file("e", nil), 2, 1, 65535), attr(dir("f"), 4, 500, 256),
	)
}

// chain is a file with so many names, and all that it stands in.
func chain(names int) []api.Node {
	var l []api.Node
	for depth := 1; depth < names; depth++ {
		l = append(l, attr(dir(strings.Repeat("d/", depth-1)+"d"), depth, depth, 1))
	}
	return rooted(append(l, file(strings.Repeat("d/", names-1)+"f", []byte("deep")))...)
}

// greatTrees are at the bounds of what a tree may be.
func greatTrees() map[string][]api.Node {
	same, dirs, links := manyFiles(1023, 0), manyFiles(1023, 0), manyFiles(1023, 0)
	for i := range 1023 {
		same[i] = one(1, file(same[i].Names[0], mixed(1, 130)))
		dirs[i].Kind = api.Dir
		links[i] = attributed(link(links[i].Names[0], string(mixed(uint32(i), 200))), xattr("n", fmt.Sprint(i)))
	}
	return map[string][]api.Node{
		"1023 tails":          rooted(manyFiles(1023, 127)...),
		"1023 names of one":   rooted(same...),
		"1023 directories":    rooted(dirs...),
		"1023 symbolic links": rooted(links...),
		"240 files":           rooted(manyFiles(240, 4096)...),
	}
}

// chance is a row of numbers that hang on where it begins.
type chance uint32

func (c *chance) below(n int) int {
	*c = *c*1664525 + 1013904223
	return int(*c>>8) % n
}

// anyTree has nodes that come as chance has it, some of them one with another.
func anyTree(seed uint32) []api.Node {
	c := chance(seed)
	dirs := [][]string{nil}
	var nodes []api.Node
	for i := range 1 + c.below(40) {
		names := append(slices.Clone(dirs[c.below(len(dirs))]), fmt.Sprint(string(rune('a'+c.below(26))), i))
		n := api.Node{Names: names, Kind: 1 + c.below(3)}
		switch {
		case n.Kind == api.Dir && len(names) < 16:
			dirs = append(dirs, names)
		case n.Kind == api.Link:
			n.Target = strings.Repeat("t", 1+c.below(200))
		default:
			n.Kind, n.Data = api.File, mixed(uint32(c.below(3)), c.below(3)*c.below(300))
		}
		n.Attr = api.Attr{Mode: c.below(512), Uid: c.below(5) * 1000, Gid: c.below(3) * 1500}
		n.Xattrs = manyXattrs(max(0, c.below(12)-4), c.below(3)*c.below(60))
		if k := c.below(len(nodes) + 1); k < len(nodes) && nodes[k].Kind != api.Dir && n.Kind != api.Dir && c.below(2) == 0 {
			if nodes[k].Ino == 0 {
				nodes[k].Ino = -1 - k
			}
			n = nodes[k]
			n.Names = names
		}
		nodes = append(nodes, n)
	}
	return rooted(nodes...)
}

func opened(t *testing.T, what string, l []api.Node) *mount.Image {
	t.Helper()
	m, e := image.Open(l)
	if e != api.OK || m == nil {
		t.Fatalf("%s: Open: error %d", what, e)
	}
	return m
}

func canon(t *testing.T, what string, l []api.Node) []api.Node {
	t.Helper()
	want, e := tree.Canon(l)
	if e != api.OK {
		t.Fatalf("%s: Canon: error %d", what, e)
	}
	return want
}

// tells is of a branch: its Tree is just that tree, in canonical order.
func tells(t *testing.T, what string, b image.Branch, l []api.Node) []api.Node {
	t.Helper()
	got, e := image.Tree(b)
	if want := canon(t, what, l); !sameNodes(got, want) || e != api.OK {
		t.Fatalf("%s: Tree: error %d\n%s\nwanted\n%s", what, e, text(got), text(want))
	}
	return got
}

// refuses is of a branch that something of can't be told.
func refuses(t *testing.T, what string, b image.Branch, want api.Errno) {
	t.Helper()
	if l, e := image.Tree(b); len(l) != 0 || e != want {
		t.Errorf("%s: Tree: %d nodes, error %d; wanted none, error %d", what, len(l), e, want)
	}
}

// sameNodes holds each field of two rows of nodes against the other.
func sameNodes(a, b []api.Node) bool {
	return slices.EqualFunc(a, b, func(x, y api.Node) bool {
		return slices.Equal(x.Names, y.Names) && x.Ino == y.Ino && x.Kind == y.Kind && x.Attr == y.Attr && bytes.Equal(x.Data, y.Data) &&
			x.Target == y.Target && slices.EqualFunc(x.Xattrs, y.Xattrs, sameXattr) && x.Opaque == y.Opaque
	})
}

func sameXattr(a, b api.Xattr) bool { return a.Name == b.Name && bytes.Equal(a.Value, b.Value) }

// text is a line for each node.
func text(l []api.Node) string {
	var s strings.Builder
	for _, n := range l {
		fmt.Fprintf(&s, "%q Ino %d Kind %d %v Data %d:%.20x Target %.20q Xattrs %.60q Opaque %v\n", n.Names, n.Ino, n.Kind, n.Attr, len(n.Data), n.Data, n.Target, n.Xattrs, n.Opaque)
	}
	return s.String()
}
