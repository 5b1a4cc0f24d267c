package tree_test

import (
	"slices"
	"strings"
	"testing"

	"lamella/api"
	"lamella/tree"
)

// P7.1: a node that may be.

// field is a change of one field, and whether a directory, a file and a symbolic link may be so.
type field struct {
	what            string
	change          func(n *api.Node)
	dir, file, link bool
}

func everywhere(what string, good bool, change func(n *api.Node)) field {
	return field{what, change, good, good, good}
}

func mode(mode int) func(n *api.Node)         { return func(n *api.Node) { n.Attr.Mode = mode } }
func uid(id int) func(n *api.Node)            { return func(n *api.Node) { n.Attr.Uid = id } }
func gid(id int) func(n *api.Node)            { return func(n *api.Node) { n.Attr.Gid = id } }
func data(n int) func(n *api.Node)            { return func(m *api.Node) { m.Data = make([]byte, n) } }
func target(target string) func(n *api.Node)  { return func(n *api.Node) { n.Target = target } }
func xattrs(l ...api.Xattr) func(n *api.Node) { return func(n *api.Node) { n.Xattrs = l } }
func xnames(l ...string) func(n *api.Node)    { return xattrs(xattrsOf(l)...) }
func xvalue(lengths ...int) func(n *api.Node) { return xattrs(xvaluesOf(lengths)...) }
func opaque(opaque bool) func(n *api.Node)    { return func(n *api.Node) { n.Opaque = opaque } }
func ofFile(what string, good bool, c func(n *api.Node)) field {
	return field{what, c, false, good, false}
}
func ofLink(what string, good bool, c func(n *api.Node)) field {
	return field{what, c, false, false, good}
}

func xattrsOf(names []string) []api.Xattr {
	var l []api.Xattr
	for _, s := range names {
		l = append(l, api.Xattr{Name: s})
	}
	return l
}

func xvaluesOf(lengths []int) []api.Xattr {
	l := xattrsOf([]string{"a", "b", "c"}[:len(lengths)])
	for i, n := range lengths {
		l[i].Value = make([]byte, n)
	}
	return l
}

func attrFields() []field {
	var l []field
	for _, x := range []struct {
		n         int
		mode, ids bool
	}{
		{-1 << 63, false, false}, {-1, false, false}, {0, true, true}, {1, true, true}, {511, true, true}, {512, false, true}, {65535, false, true}, {65536, false, false}, {1<<63 - 1, false, false},
	} {
		l = append(l, everywhere("Mode", x.mode, mode(x.n)), everywhere("Uid", x.ids, uid(x.n)), everywhere("Gid", x.ids, gid(x.n)))
	}
	return l
}

func contentFields() []field {
	long := strings.Repeat("t", 200)
	return []field{
		everywhere("no Data", true, data(0)), everywhere("nil as Data", true, func(n *api.Node) { n.Data = nil }),
		ofFile("Data of 1", true, data(1)), ofFile("Data of 4096", true, data(4096)), ofFile("Data of 4097", false, data(4097)), ofFile("much Data", false, data(100000)),
		{"no Target", target(""), true, true, false},
		ofLink("a Target", true, target("t")), ofLink("a Target of 200", true, target(long)), ofLink("a Target of 201", false, target(long+"t")),
		ofLink("letters of 200", true, target(strings.Repeat("é", 100))), ofLink("letters of 201", false, target(strings.Repeat("é", 100)+"t")),
		ofLink("a nought", false, target("\x00")), ofLink("a nought first", false, target("\x00t")), ofLink("a nought last", false, target("t\x00")), ofLink("a nought in 200", false, target(long[:100]+"\x00"+long[:99])),
		ofLink("any other bytes", true, target("/.././/\xff\x01 ")),
		everywhere("Opaque", false, opaque(true)), everywhere("not Opaque", true, opaque(false)),
	}
}

func xattrFields() []field {
	long := strings.Repeat("n", 40)
	return []field{
		everywhere("no Xattrs", true, xnames()), everywhere("one", true, xnames("a")), everywhere("two that rise", true, xnames("a", "b")),
		everywhere("two that fall", false, xnames("b", "a")), everywhere("two that are the same", false, xnames("a", "a")), everywhere("a fall at the end", false, xnames("a", "c", "d", "b")), everywhere("the same at the end", false, xnames("a", "b", "b")), everywhere("the same apart", false, xnames("a", "b", "a")),
		everywhere("one that begins another", true, xnames("a", "ab", "b")), everywhere("one that begins another, behind it", false, xnames("ab", "a")),
		everywhere("bytes that rise", true, xnames("\x01", " ", "10", "9", "Z", "a", "\x80", "\xff")), everywhere("bytes that fall", false, xnames("a", "Z")), everywhere("bytes that fall, high ones", false, xnames("\x80", "\x7f")),
		everywhere("8", true, xnames("a", "b", "c", "d", "e", "f", "g", "h")), everywhere("9", false, xnames("a", "b", "c", "d", "e", "f", "g", "h", "i")),
		everywhere("an empty name", false, xnames("")), everywhere("an empty name first", false, xnames("", "a")), everywhere("an empty name last", false, xnames("a", "")),
		everywhere("40 bytes", true, xnames(long)), everywhere("41 bytes", false, xnames(long+"n")), everywhere("41 bytes last", false, xnames("a", long+"n")), everywhere("letters of 40", true, xnames(strings.Repeat("é", 20))), everywhere("letters of 42", false, xnames(strings.Repeat("é", 21))),
		everywhere("a nought", false, xnames("\x00")), everywhere("a nought first", false, xnames("\x00a")), everywhere("a nought last", false, xnames("a\x00")), everywhere("a nought in a later one", false, xnames("a", "b\x00")),
		everywhere("a slash", true, xnames("/")), everywhere("dots", true, xnames(".", "..")),
		everywhere("no value", true, xvalue(0)), everywhere("200 bytes", true, xvalue(200)), everywhere("201 bytes", false, xvalue(201)), everywhere("200 bytes each", true, xvalue(200, 200, 200)), everywhere("201 bytes last", false, xvalue(0, 1, 201)), everywhere("201 bytes in the middle", false, xvalue(0, 201, 1)),
	}
}

func TestCheckOfFields(t *testing.T) {
	root := dir(1, "")
	for _, f := range slices.Concat(attrFields(), contentFields(), xattrFields()) {
		for _, x := range []struct {
			n    api.Node
			good bool
		}{{dir(5, "x"), f.dir}, {file(5, "x"), f.file}, {link(5, "x"), f.link}} {
			want := api.ErrKind
			if x.good {
				want = api.OK
			}
			changed := with(x.n, f.change)
			checks(t, f.what, want, root, changed, file(6, "y"))
			if changed.Kind == api.Dir {
				changed.Names = nil
				checks(t, f.what+" of the root", want, changed)
			}
		}
	}
}

func TestCheckOfKinds(t *testing.T) {
	for kind, want := range map[int]api.Errno{
		-1 << 63: api.ErrKind, -1: api.ErrKind, 0: api.ErrKind, 1: api.OK, 2: api.OK, 3: api.OK, 4: api.ErrKind, 5: api.ErrKind, 257: api.ErrKind, 1 << 32: api.ErrKind, 1<<63 - 1: api.ErrKind,
	} {
		checks(t, "a kind", want, dir(1, ""), node(kind, 2, "x"))
	}
}

// P7.2: Alike.

func full() api.Node {
	return api.Node{
		Names: []string{"a", "b"}, Ino: 7, Kind: 2, Attr: api.Attr{Mode: 1, Uid: 2, Gid: 3}, Data: []byte("data"), Target: "target",
		Xattrs: []api.Xattr{{Name: "a", Value: []byte("1")}, {Name: "b", Value: []byte("2")}}, Opaque: true,
	}
}

func alike(t *testing.T, what string, want bool, a, b api.Node) {
	t.Helper()
	if tree.Alike(a, b) != want || tree.Alike(b, a) != want {
		t.Errorf("%s: %t, %t, wanted %t", what, tree.Alike(a, b), tree.Alike(b, a), want)
	}
}

func TestAlike(t *testing.T) {
	alike(t, "nothing", true, api.Node{}, api.Node{})
	alike(t, "the same", true, full(), full())
	alike(t, "nothing and something", false, api.Node{}, full())
	alike(t, "other names", true, full(), with(full(), func(n *api.Node) { n.Names = nil }))
	alike(t, "another Ino", true, full(), with(full(), func(n *api.Node) { n.Ino = -8 }))
	for what, change := range map[string]func(n *api.Node){
		"Kind": func(n *api.Node) { n.Kind = 1 }, "Mode": mode(2), "Uid": uid(3), "Gid": gid(4),
		"Uid and Gid": func(n *api.Node) { n.Attr.Uid, n.Attr.Gid = n.Attr.Gid, n.Attr.Uid },
		"Data":        func(n *api.Node) { n.Data = []byte("date") }, "shorter Data": func(n *api.Node) { n.Data = n.Data[:3] }, "longer Data": func(n *api.Node) { n.Data = append(n.Data, 0) }, "no Data": data(0),
		"Target": target("targeT"), "no Target": target(""), "Opaque": opaque(false),
		"no Xattrs": xattrs(), "one": xattrs(full().Xattrs[0]), "three": xattrs(append(full().Xattrs, api.Xattr{Name: "c"})...),
		"another order": xattrs(full().Xattrs[1], full().Xattrs[0]), "a name": xattrs(full().Xattrs[0], api.Xattr{Name: "c", Value: []byte("2")}),
		"a value": xattrs(full().Xattrs[0], api.Xattr{Name: "b", Value: []byte("1")}), "no value": xattrs(full().Xattrs[0], api.Xattr{Name: "b"}), "the first value": xattrs(api.Xattr{Name: "a"}, full().Xattrs[1]),
	} {
		alike(t, what, false, full(), with(full(), change))
	}
}

func TestAlikeOfEmptyLists(t *testing.T) {
	alike(t, "Data", true, api.Node{Data: nil}, api.Node{Data: []byte{}})
	alike(t, "Xattrs", true, api.Node{Xattrs: nil}, api.Node{Xattrs: []api.Xattr{}})
	alike(t, "a value", true, api.Node{Xattrs: []api.Xattr{{Name: "a"}}}, api.Node{Xattrs: []api.Xattr{{Name: "a", Value: []byte{}}}})
	alike(t, "an empty Xattr and none", false, api.Node{Xattrs: []api.Xattr{{}}}, api.Node{})
	alike(t, "Data of a nought and none", false, api.Node{Data: []byte{0}}, api.Node{})
}

// P7.2: Find, Kids, Links.

func TestFind(t *testing.T) {
	l := []api.Node{file(1, "d/f"), dir(2, "d"), dir(3, ""), file(4, "a"), file(5, "d"), named(6, "a/b"), named(7, ""), file(8, ""), file(9, "x/y/z")}
	for i, names := range map[int][]string{
		0: {"d", "f"}, 1: {"d"}, 2: nil, 3: {"a"}, 5: {"a/b"}, 6: {""}, 8: {"x", "y", "z"},
	} {
		if n := tree.Find(l, names); n != i {
			t.Errorf("Find of %q: %d, wanted %d", names, n, i)
		}
	}
	if n := tree.Find(l, []string{}); n != 2 {
		t.Errorf("Find of no names: %d", n)
	}
	for _, names := range [][]string{{"x"}, {"x", "y"}, {"d", "f", "g"}, {"d", ""}, {"f"}, {"a", "b"}, {"D"}, {"", ""}, {"d/f"}, make([]string, 50)} {
		if n := tree.Find(l, names); n != -1 {
			t.Errorf("Find of %q: %d, wanted -1", names, n)
		}
	}
	for _, names := range [][]string{nil, {}, {"a"}} {
		if n := tree.Find(nil, names); n != -1 {
			t.Errorf("Find of %q in nothing: %d", names, n)
		}
	}
}

func kids(t *testing.T, l []api.Node, names []string, want ...int) {
	t.Helper()
	if k := tree.Kids(l, names); !slices.Equal(k, want) {
		t.Errorf("Kids of %q: %v, wanted %v", names, k, want)
	}
}

func TestKids(t *testing.T) {
	l := []api.Node{file(1, "d/z"), dir(2, "d"), dir(3, ""), file(4, "a"), file(5, "d/b/c"), dir(6, "d/b"), link(7, "d/a"), file(8, "c"), file(9, "d!"), file(10, "d/\xff"), file(11, "d/é")}
	kids(t, l, nil, 3, 7, 1, 8)
	kids(t, l, []string{}, 3, 7, 1, 8)
	kids(t, l, []string{"d"}, 6, 5, 0, 10, 9)
	kids(t, l, []string{"d", "b"}, 4)
	for _, names := range [][]string{{"a"}, {"d", "a"}, {"d", "b", "c"}, {"x"}, {"d", "b", "c", "d"}, {""}, {"d/b"}, make([]string, 50)} {
		kids(t, l, names)
	}
	kids(t, nil, nil)
	kids(t, nil, []string{"a"})
	kids(t, []api.Node{dir(1, "")}, nil)
}

// TestKidsOfNoTree: the nodes may be any ones, also the same several times.
func TestKidsOfNoTree(t *testing.T) {
	l := []api.Node{file(1, "x/b"), file(2, "x/a"), file(3, "x/b"), node(9, 4, "x/a"), named(5, "x", ""), named(6, "x", "a/b"), file(7, "y/a"), file(8, "x/b"), file(9, "x/a")}
	kids(t, l, []string{"x"}, 4, 1, 3, 8, 5, 0, 2, 7)
	kids(t, l, []string{"y"}, 6)
	kids(t, l, nil)
	var many []api.Node
	var want [3][]int
	for i := range 300 {
		many = append(many, file(i, []string{"b", "c", "a"}[i%3]))
		want[(i+1)%3] = append(want[(i+1)%3], i)
	}
	kids(t, many, nil, slices.Concat(want[:]...)...)
}

func TestLinks(t *testing.T) {
	l := []api.Node{dir(1, ""), file(2, "a"), file(-3, "b"), file(2, "a"), dir(2, "c"), file(0, "d"), file(-3, "e"), file(1<<63-1, "f")}
	for i, want := range []int{1, 3, 2, 3, 3, 1, 2, 1} {
		if n := tree.Links(l, i); n != want {
			t.Errorf("Links of %d: %d, wanted %d", i, n, want)
		}
	}
	for _, i := range []int{-1, -2, -1 << 63, 8, 9, 1<<63 - 1} {
		if n := tree.Links(l, i); n != 0 {
			t.Errorf("Links of %d: %d", i, n)
		}
	}
	for _, i := range []int{-1, 0, 1} {
		if n := tree.Links(nil, i); n != 0 {
			t.Errorf("Links of %d of none: %d", i, n)
		}
		if n := tree.Links(make([]api.Node, 5, 9), 5+i); n != []int{5, 0, 0}[i+1] {
			t.Errorf("Links of %d of 5 with spare room: %d", 5+i, n)
		}
	}
}

// TestLooksChangeNothing: what is handed in stays, and an answer is not seen in the next one (R6, R7).
func TestLooksChangeNothing(t *testing.T) {
	l := append(rich(), file(99, "spare"))
	before := deep(l)
	row := []string{"d", "spare"}
	k := tree.Kids(l[:6], row[:1])
	if !slices.Equal(k, []int{3, 4}) {
		t.Fatal(k)
	}
	k[0], k[1] = 9, 9
	_ = append(k, 9)
	kids(t, l[:6], row[:1], 3, 4)
	tree.Find(l[:6], row[:1])
	tree.Links(l[:6], 1)
	tree.Alike(l[1], l[3])
	if !same(l, before) || !slices.Equal(row, []string{"d", "spare"}) {
		t.Errorf("%v, %q", l, row)
	}
}
