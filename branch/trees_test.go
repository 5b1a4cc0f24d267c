package branch_test

import (
	"bytes"
	"fmt"
	"math"
	"slices"
	"strings"
	"testing"

	"lamella/api"
	"lamella/branch"
	"lamella/image"
	"lamella/name"
	"lamella/upper"
)

// much is a quota that no test comes to.
var much = api.Quota{Nodes: 1 << 20, Bytes: 1 << 30}

// mixed is n bytes, the same ones in each run of the tests.
func mixed(seed uint32, n int) string {
	b := make([]byte, n)
	for i := range b {
		seed = seed*1664525 + 1013904223
		b[i] = byte(seed >> 16)
	}
	return string(b)
}

// named is a node's names, out of a path without a slash ahead; of the root "".
func named(path string) []string {
	if path == "" {
		return nil
	}
	return strings.Split(path, "/")
}

func dir(path string) api.Node   { return api.Node{Names: named(path), Kind: api.Dir} }
func white(path string) api.Node { return api.Node{Names: named(path), Kind: api.White} }

func file(path, data string) api.Node {
	return api.Node{Names: named(path), Kind: api.File, Data: []byte(data)}
}

func link(path, target string) api.Node {
	return api.Node{Names: named(path), Kind: api.Link, Target: target}
}

// with is a node that is changed.
func with(n api.Node, change func(n *api.Node)) api.Node {
	change(&n)
	return n
}

func opaque(n api.Node) api.Node { return with(n, func(n *api.Node) { n.Opaque = true }) }

func attr(n api.Node, mode, uid, gid int) api.Node {
	return with(n, func(n *api.Node) { n.Attr = api.Attr{Mode: mode, Uid: uid, Gid: gid} })
}

func attributed(n api.Node, l ...api.Xattr) api.Node {
	return with(n, func(n *api.Node) { n.Xattrs = l })
}

func xattr(name, value string) api.Xattr { return api.Xattr{Name: name, Value: []byte(value)} }

// one is a node with an Ino below 0: those of one number are one.
func one(number int, n api.Node) api.Node {
	return with(n, func(n *api.Node) { n.Ino = -number })
}

// numbered gives each node that has no Ino yet one of its own.
func numbered(l ...api.Node) []api.Node {
	for i := range l {
		if l[i].Ino == 0 {
			l[i].Ino = i + 1
		}
	}
	return l
}

// rooted is these nodes and a root.
func rooted(nodes ...api.Node) []api.Node {
	return numbered(append([]api.Node{attr(dir(""), 493, 0, 0)}, nodes...)...)
}

// world has one of all that there is, in no order.
func world() []api.Node {
	same := func(path string) api.Node {
		return one(1, attributed(attr(file(path, mixed(1, 300)), 420, 5, 300), xattr("user.a", "v"), xattr("user.b", "")))
	}
	return numbered(
		same("d/g"), white("d/s/w"), opaque(attributed(attr(dir("d"), 448, 5, 7), xattr("of", "d"))), one(2, link("m", "to")), same("a"), white("w"),
		attributed(attr(opaque(dir("")), 7, 8, 9), xattr("of", "the root")), dir("d/s"), same("d/s/f"), white("d/v"), dir("e"), one(2, link("d/k", "to")),
		opaque(dir("o")), white("o/x"), white("o/y"), attr(file("d-s", "x"), 1, 2, 3), attr(link("l", "\xff/.."), 511, 65535, 65535), file("empty", ""), same("z"),
	)
}

// worldText is the world in canonical order, written out.
const worldText = `[] 1 1 {7 8 9} 0 "" ["of"="the root"] true
["a"] 2 2 {420 5 300} 300 "" ["user.a"="v" "user.b"=""] false
["d"] 3 1 {448 5 7} 0 "" ["of"="d"] true
["d" "g"] 2 2 {420 5 300} 300 "" ["user.a"="v" "user.b"=""] false
["d" "k"] 4 3 {0 0 0} 0 "to" [] false
["d" "s"] 5 1 {0 0 0} 0 "" [] false
["d" "s" "f"] 2 2 {420 5 300} 300 "" ["user.a"="v" "user.b"=""] false
["d" "s" "w"] 6 4 {0 0 0} 0 "" [] false
["d" "v"] 7 4 {0 0 0} 0 "" [] false
["d-s"] 8 2 {1 2 3} 1 "" [] false
["e"] 9 1 {0 0 0} 0 "" [] false
["empty"] 10 2 {0 0 0} 0 "" [] false
["l"] 11 3 {511 65535 65535} 0 "\xff/.." [] false
["m"] 4 3 {0 0 0} 0 "to" [] false
["o"] 12 1 {0 0 0} 0 "" [] true
["o" "x"] 13 4 {0 0 0} 0 "" [] false
["o" "y"] 14 4 {0 0 0} 0 "" [] false
["w"] 15 4 {0 0 0} 0 "" [] false
["z"] 2 2 {420 5 300} 300 "" ["user.a"="v" "user.b"=""] false
`

// chain is directories one in the other, each of which has a White beside the next one; every second one, from the root on, is Opaque.
func chain(depth int) []api.Node {
	l := []api.Node{opaque(attr(dir(""), 1, 0, 0)), white("w")}
	for i := 1; i <= depth; i++ {
		path := strings.Repeat("d/", i-1)
		n := attr(dir(path+"d"), 1, i, 0)
		n.Opaque = i%2 == 0
		l = append(l, n)
		if i < depth {
			l = append(l, white(path+"d/w"))
		}
	}
	return numbered(l...)
}

// plainTrees have neither Whites nor Opaque directories, so that they have images.
func plainTrees() map[string][]api.Node {
	return map[string][]api.Node{
		"a root alone":      rooted(),
		"a file":            rooted(file("a", "hi")),
		"one of each":       rooted(dir("d"), file("d/f", mixed(2, 200)), link("l", "d/f"), dir("d/e")),
		"names of any sort": rooted(dir("a"), file("a-b", ""), file("a/b", ""), dir("a!"), file("a!/z", ""), file("\xff", ""), file(" ", ""), file("...", ""), file(strings.Repeat("n", 255), "")),
		"files that are one": rooted(
			dir("b"), dir("b/c"), one(1, file("z", "one")), one(1, file("b/a", "one")), one(2, file("b/c/d", "two")), one(2, file("a", "two")), one(1, file("b/c/a", "one")), file("b/b", "one"),
		),
		"symbolic links that are one": rooted(dir("d"), one(1, link("d/l", "t")), one(1, link("a", "t")), link("b", "t"), one(1, link("z", "t"))),
		"attributes": rooted(
			attributed(file("a", ""), xattr("n", "v"), xattr("o", "")), attributed(dir("b"), xattr(strings.Repeat("n", 40), strings.Repeat("v", 200))), attributed(link("b/c", "t"), xattr("n", "\x00\xff")),
			attributed(file("d", ""), xattr("a", "1"), xattr("b", "2"), xattr("c", "3"), xattr("d", "4"), xattr("e", "5"), xattr("f", "6"), xattr("g", "7"), xattr("h", "8")),
		),
		"a root of its own": numbered(attributed(attr(dir(""), 511, 65535, 1), xattr("a", "b"), xattr("c", "")), file("a", "")),
		"a root of nothing": numbered(dir(""), file("a", "")),
		"great files":       rooted(file("a", mixed(3, 4096)), file("b", strings.Repeat("\x00", 4096)), link("c", strings.Repeat("t", 200))),
	}
}

// trees are those of upper branches.
func trees() map[string][]api.Node {
	l := plainTrees()
	l["a world"] = world()
	l["a White"] = rooted(white("a"))
	l["Whites"] = rooted(white("b"), white("a"), dir("d"), white("d/a"), white("d/b"), dir("d/e"), white("d/e/a"))
	l["Whites alone in an Opaque root"] = numbered(opaque(dir("")), white("a"), white("b"))
	l["an Opaque root alone"] = numbered(opaque(dir("")))
	l["Opaque directories"] = rooted(opaque(dir("a")), opaque(dir("a/b")), dir("a/b/c"), opaque(dir("a/b/c/d")), file("a/b/c/d/e", "e"), opaque(attributed(attr(dir("z"), 511, 1, 2), xattr("n", "v"))))
	l["Whites beside files that are one"] = rooted(dir("d"), one(1, file("d/a", "x")), white("d/b"), one(1, file("d/c", "x")), white("b"), one(1, file("a", "x")), one(2, file("c", "")), one(2, file("e", "")))
	l["Whites ahead of what has their names as a beginning"] = rooted(white("a"), dir("a-"), white("a-/a"), dir("a!"), white("a!/b"))
	l["the Ino 0"] = []api.Node{attr(dir(""), 1, 2, 3), with(white("a"), func(n *api.Node) { n.Ino = 1 }), with(white("b"), func(n *api.Node) { n.Ino = -1 })}
	l["a chain"] = chain(16)
	return l
}

// greatTrees are at the bounds of what a tree may be.
func greatTrees() map[string][]api.Node {
	whites, files, dirs := make([]api.Node, 1023), make([]api.Node, 1023), make([]api.Node, 1023)
	for i := range 1023 {
		path := fmt.Sprint(i * 7919 % 1023)
		whites[i], files[i], dirs[i] = white(path), one(1+i%5, file(path, fmt.Sprint(i%5))), opaque(dir(path))
	}
	return map[string][]api.Node{"1023 Whites": rooted(whites...), "1023 names of files": rooted(files...), "1023 Opaque directories": rooted(dirs...)}
}

// chance is a row of numbers that comes again as it was.
type chance uint64

func (c *chance) below(n int) int {
	*c = *c*6364136223846793005 + 1442695040888963407
	return int(*c>>33) % n
}

func pick[T any](c *chance, l ...T) T { return l[c.below(len(l))] }

// anyTree has nodes that come as chance has it, some of them one with another, in any order.
func anyTree(seed int) []api.Node {
	c := chance(seed)
	dirs := []string{""}
	l := []api.Node{attr(dir(""), c.below(512), c.below(2), 0)}
	l[0].Opaque = c.below(3) == 0
	for i := range c.below(30) {
		path := pick(&c, dirs...) + pick(&c, "a", "b", "c", "-", "\xff") + fmt.Sprint(i)
		n := pick(&c, dir(path), dir(path), file(path, mixed(uint32(i), c.below(3)*c.below(300))), link(path, "t"), white(path), white(path))
		if n.Kind == api.Dir && len(n.Names) < 16 {
			dirs = append(dirs, path+"/")
			n.Opaque = c.below(2) == 0
		}
		if n.Kind != api.White {
			n = attributed(attr(n, c.below(512), c.below(3), c.below(70)), pick(&c, nil, []api.Xattr{xattr("a", "1")}, []api.Xattr{xattr("a", ""), xattr("b", "22")})...)
		}
		n.Ino = 1000 + i
		if other := pick(&c, l...); i%3 == 0 && other.Kind != api.Dir && other.Kind != api.White {
			n = with(other, func(n *api.Node) { n.Names = named(path) })
			dirs = slices.DeleteFunc(dirs, func(s string) bool { return s == path+"/" })
		}
		l = append(l, n)
	}
	shuffle(&c, l)
	return l
}

func shuffle[T any](c *chance, l []T) {
	for i := range l {
		k := c.below(i + 1)
		l[i], l[k] = l[k], l[i]
	}
}

// canonical is a tree in canonical order: each node stands behind all whose names are less.
func canonical(l []api.Node) []api.Node {
	out := make([]api.Node, len(l))
	for _, n := range l {
		place := 0
		for _, m := range l {
			if name.Less(m.Names, n.Names) {
				place++
			}
		}
		out[place] = n
	}
	renumber(out)
	return out
}

// renumber gives Inos as they come first.
func renumber(l []api.Node) {
	var seen []int
	for i := range l {
		if !slices.Contains(seen, l[i].Ino) {
			seen = append(seen, l[i].Ino)
		}
		l[i].Ino = 1 + slices.Index(seen, l[i].Ino)
	}
}

// sameNodes holds each field of two rows of nodes against the other.
func sameNodes(a, b []api.Node) bool {
	return slices.EqualFunc(a, b, func(x, y api.Node) bool {
		return slices.Equal(x.Names, y.Names) && x.Ino == y.Ino && alike(x, y)
	})
}

func alike(x, y api.Node) bool {
	return x.Kind == y.Kind && x.Attr == y.Attr && bytes.Equal(x.Data, y.Data) && x.Target == y.Target && slices.EqualFunc(x.Xattrs, y.Xattrs, sameXattr) && x.Opaque == y.Opaque
}

func sameXattr(a, b api.Xattr) bool { return a.Name == b.Name && bytes.Equal(a.Value, b.Value) }

// text is a line for each node.
func text(l []api.Node) string {
	var s strings.Builder
	for _, n := range l {
		var x []string
		for _, a := range n.Xattrs {
			x = append(x, fmt.Sprintf("%q=%.30q", a.Name, a.Value))
		}
		fmt.Fprintf(&s, "%.20q %d %d %v %d %.20q %v %v\n", n.Names, n.Ino, n.Kind, n.Attr, len(n.Data), n.Target, x, n.Opaque)
	}
	return s.String()
}

// all is all that an upper branch tells, of refs up to last, as text.
func all(u *upper.Upper, last int) string {
	var s strings.Builder
	for ref := -1; ref <= last; ref++ {
		stat, e := u.Stat(ref)
		list, f := u.List(ref)
		b, g := u.Read(ref, 0, math.MaxInt)
		target, h := u.Target(ref)
		x, i := u.Xattrs(ref)
		fmt.Fprintf(&s, "%d: %+v %v %q %q %q %v %v\n", ref, stat, list, b, target, x, u.Opaque(ref), []api.Errno{e, f, g, h, i})
	}
	fmt.Fprintf(&s, "%d %+v %v\n", u.Root(), u.Used(), u.Over())
	return s.String()
}

// filled is Fill that must hold.
func filled(t *testing.T, what string, l []api.Node) *upper.Upper {
	t.Helper()
	u, e := branch.Fill(much, l)
	if u == nil || e != api.OK {
		t.Fatalf("%s: Fill: %p, error %d", what, u, e)
	}
	return u
}

// tells is of a branch: its Tree is just these nodes, in this order.
func tells(t *testing.T, what string, b image.Branch, want []api.Node) []api.Node {
	t.Helper()
	got, e := branch.Tree(b)
	if !sameNodes(got, want) || e != api.OK {
		t.Fatalf("%s: Tree: error %d\n%s\nwanted\n%s", what, e, text(got), text(want))
	}
	return got
}

// holds is of a call that must hold.
func holds(t *testing.T, what string, e api.Errno) {
	t.Helper()
	if e != api.OK {
		t.Fatalf("%s: error %d", what, e)
	}
}
