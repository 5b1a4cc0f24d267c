package tree_test

import (
	"slices"
	"strings"
	"testing"

	"lamella/api"
	"lamella/name"
	"lamella/tree"
)

// node is one of a path that is cut at its slashes alone: of no bytes the root.
func node(kind, ino int, path string) api.Node {
	n := api.Node{Ino: ino, Kind: kind, Names: names(path)}
	if kind == api.Link {
		n.Target = "t"
	}
	return n
}

func names(path string) []string {
	if path == "" {
		return nil
	}
	return strings.Split(path, "/")
}

func dir(ino int, path string) api.Node  { return node(api.Dir, ino, path) }
func file(ino int, path string) api.Node { return node(api.File, ino, path) }
func link(ino int, path string) api.Node { return node(api.Link, ino, path) }

// with is a node that is changed.
func with(n api.Node, change func(n *api.Node)) api.Node {
	change(&n)
	return n
}

// named is a file of these names, whatever they are.
func named(ino int, l ...string) api.Node { return api.Node{Ino: ino, Kind: api.File, Names: l} }

func checks(t *testing.T, what string, want api.Errno, l ...api.Node) {
	t.Helper()
	if e := tree.Check(l); e != want {
		t.Errorf("%s: Check: %d, wanted %d", what, e, want)
	}
	back := slices.Clone(l)
	slices.Reverse(back)
	if e := tree.Check(back); e != want {
		t.Errorf("%s, from the last on: Check: %d, wanted %d", what, e, want)
	}
	c, e := tree.Canon(l)
	if e != want || e != api.OK && c != nil || e == api.OK && len(c) != len(l) {
		t.Errorf("%s: Canon: %d nodes, %d, wanted %d", what, len(c), e, want)
	}
}

// same holds each field of two rows of nodes against the other, names and Inos too.
func same(a, b []api.Node) bool {
	return slices.EqualFunc(a, b, func(x, y api.Node) bool {
		return x.Ino == y.Ino && slices.Equal(x.Names, y.Names) && slowAlike(x, y)
	})
}

func slowAlike(a, b api.Node) bool {
	if len(a.Xattrs) != len(b.Xattrs) {
		return false
	}
	for i, x := range a.Xattrs {
		if x.Name != b.Xattrs[i].Name || string(x.Value) != string(b.Xattrs[i].Value) {
			return false
		}
	}
	return a.Kind == b.Kind && a.Attr == b.Attr && string(a.Data) == string(b.Data) && a.Target == b.Target && a.Opaque == b.Opaque
}

// P7.1.

func TestExamples(t *testing.T) {
	checks(t, "a directory without names", api.OK, dir(1, ""))
	checks(t, "none", api.ErrRoot)
	checks(t, "a file a/b", api.ErrParent, dir(1, ""), file(2, "a/b"))
}

func TestCheckOfTrees(t *testing.T) {
	checks(t, "one of each kind", api.OK, dir(1, ""), dir(2, "d"), file(3, "d/f"), link(4, "d/l"), dir(5, "d/e"), file(6, "d/e/f"))
	checks(t, "a name that begins another", api.OK, dir(1, ""), dir(2, "a"), dir(3, "ab"), file(4, "a/b"), file(5, "ab/c"))
	checks(t, "names of any bytes", api.OK, dir(1, ""), dir(2, " "), file(3, " /\xff\xfe"), file(4, "..."), file(5, "é"), file(6, "\n"))
	checks(t, "several names of one", api.OK, dir(1, ""), dir(2, "d"), file(3, "a"), file(3, "d/a"), link(4, "l"), link(4, "d/l"), file(3, "z"))
	checks(t, "any numbers as Inos", api.OK, dir(-1<<63, ""), dir(1<<63-1, "d"), file(0, "a"), file(-1, "b"), file(0, "c"), file(-1, "d/e"))
}

func TestCheckOfManyNodes(t *testing.T) {
	l := []api.Node{dir(1, "")}
	for i := range 1023 {
		l = append(l, file(i+2, "f"+strings.Repeat("x", i%100)+strings.Repeat("y", i/100)))
	}
	checks(t, "1024 nodes", api.OK, l...)
	checks(t, "1025 nodes", api.ErrBig, append(slices.Clone(l), file(2000, "g"))...)
	for what, bad := range map[string]api.Node{
		"a wrong name": file(1, "a//b"), "a long name": file(1, strings.Repeat("x", 256)), "a deep one": file(1, strings.Repeat("a/", 16)+"a"), "one twice": l[5],
		"no parent": file(2000, "q/r"), "a wrong kind": node(9, 2000, "g"), "links that differ": link(2, "g"),
	} {
		checks(t, "1025 nodes, "+what, api.ErrBig, append(slices.Clone(l), bad)...)
	}
	checks(t, "1025 without a root", api.ErrBig, append(slices.Clone(l[1:]), file(2000, "g"), file(2001, "h"))...)
	checks(t, "1025 roots", api.ErrBig, make([]api.Node, 1025)...)
	checks(t, "1024 roots", api.ErrTwice, make([]api.Node, 1024)...)
	checks(t, "many more", api.ErrBig, make([]api.Node, 5000)...)
}

func TestCheckOfNames(t *testing.T) {
	long := strings.Repeat("x", 255)
	checks(t, "255 bytes", api.OK, dir(1, ""), dir(2, long), file(3, long+"/"+long))
	for bad, want := range map[string]api.Errno{
		long + "x": api.ErrLong, long + "\x00": api.ErrLong, long + "/": api.ErrLong,
		"": api.ErrName, ".": api.ErrName, "..": api.ErrName, "a/b": api.ErrName, "/": api.ErrName, "a/": api.ErrName, "/a": api.ErrName, "\x00": api.ErrName, "a\x00": api.ErrName, "a\x00b": api.ErrName, "\xe2\x82\x00": api.ErrName, "\xe2\x82/": api.ErrName,
	} {
		for what, n := range map[string]api.Node{
			"as the only one": named(2, bad), "as the first one": named(2, bad, "b"), "as a later one": named(2, "a", bad, "b"), "as the last one": named(2, "a", bad),
		} {
			checks(t, "a wrong name alone "+what, want, n)
			checks(t, "a wrong name "+what, want, dir(1, ""), n)
			checks(t, "a wrong name in a later node "+what, want, dir(1, ""), dir(3, "a"), dir(4, "a/b"), n, file(5, "z"))
		}
	}
}

// TestCheckOfTheFirstName: of several wrong names the first one's error is told, node by node.
func TestCheckOfTheFirstName(t *testing.T) {
	long, root := strings.Repeat("x", 256), dir(1, "")
	for _, x := range []struct {
		what string
		want api.Errno
		l    []api.Node
	}{
		{"long ahead in a node", api.ErrLong, []api.Node{root, named(2, long, "")}},
		{"long behind in a node", api.ErrName, []api.Node{root, named(2, "", long)}},
		{"long ahead, in another node", api.ErrLong, []api.Node{root, named(2, "a", long), named(3, "")}},
		{"long behind, in another node", api.ErrName, []api.Node{root, named(2, "a", "."), named(3, long)}},
		{"a later name of an earlier node", api.ErrName, []api.Node{named(2, "a", "b", "c", ".."), named(3, long), root}},
		{"a long one ahead of all", api.ErrLong, []api.Node{named(3, long), named(2, "/"), root}},
	} {
		if e := tree.Check(x.l); e != x.want {
			t.Errorf("%s: %d, wanted %d", x.what, e, x.want)
		}
		if l, e := tree.Canon(x.l); l != nil || e != x.want {
			t.Errorf("%s: Canon: %v, %d, wanted %d", x.what, l, e, x.want)
		}
	}
}

// chain is directories one in the other, so many, with the root.
func chain(n int) []api.Node {
	l := []api.Node{dir(1, "")}
	for i := range n {
		l = append(l, dir(i+2, "a"+strings.Repeat("/a", i)))
	}
	return l
}

func TestCheckOfDepth(t *testing.T) {
	checks(t, "16 names", api.OK, chain(16)...)
	checks(t, "17 names", api.ErrDeep, chain(17)...)
	checks(t, "a file at 16 names", api.OK, append(chain(15), file(50, strings.Repeat("a/", 15)+"f"))...)
	checks(t, "a file at 17 names", api.ErrDeep, append(chain(16), file(50, strings.Repeat("a/", 16)+"f"))...)
	checks(t, "17 names without a parent", api.ErrDeep, dir(1, ""), file(2, strings.Repeat("b/", 16)+"b"))
	checks(t, "16 names without a parent", api.ErrParent, dir(1, ""), file(2, strings.Repeat("b/", 15)+"b"))
	checks(t, "100000 names", api.ErrDeep, dir(1, ""), file(2, strings.Repeat("b/", 99999)+"b"))
	checks(t, "17 empty names", api.ErrName, dir(1, ""), named(2, make([]string, 17)...))
	checks(t, "17 names, the last one wrong", api.ErrName, dir(1, ""), file(2, strings.Repeat("b/", 16)+".."))
	checks(t, "17 names, and a wrong one elsewhere", api.ErrName, append(chain(17), file(50, "."))...)
}

func TestCheckOfTwo(t *testing.T) {
	checks(t, "two without names", api.ErrTwice, dir(1, ""), dir(2, ""))
	checks(t, "one that is there twice", api.ErrTwice, dir(1, ""), dir(1, ""))
	checks(t, "no names, as nil and as none", api.ErrTwice, dir(1, ""), api.Node{Names: []string{}, Ino: 2, Kind: api.Dir})
	checks(t, "a file and a directory without names", api.ErrTwice, dir(1, ""), file(2, ""))
	checks(t, "two files", api.ErrTwice, dir(1, ""), file(2, "a"), file(3, "a"))
	checks(t, "two kinds", api.ErrTwice, dir(1, ""), file(2, "a"), dir(3, "a"))
	checks(t, "one Ino", api.ErrTwice, dir(1, ""), file(2, "a"), file(2, "a"))
	checks(t, "deeper ones", api.ErrTwice, dir(1, ""), dir(2, "a"), file(3, "a/b"), file(4, "c"), link(5, "a/b"))
	checks(t, "two without a root", api.ErrTwice, file(1, "a/b"), file(2, "a/b"))
	checks(t, "names of the same bytes", api.OK, dir(1, ""), dir(2, "a"), file(3, "a/b"), file(4, "ab"), dir(5, "aa"), file(6, "aa/b"))
	checks(t, "large and small letters", api.OK, dir(1, ""), file(2, "a"), file(3, "A"))
}

func TestCheckOfRoots(t *testing.T) {
	checks(t, "a file alone", api.ErrRoot, file(1, "a"))
	checks(t, "directories alone", api.ErrRoot, dir(1, "a"), dir(2, "a/b"))
	for _, kind := range []int{api.File, api.Link, api.White, 0, -1, 5} {
		checks(t, "a root that is none", api.ErrRoot, node(kind, 1, ""))
		checks(t, "a root that is none, with a file", api.ErrRoot, node(kind, 1, ""), file(2, "a"))
	}
	checks(t, "a file in no directory, without a root", api.ErrRoot, file(1, "a/b"))
	checks(t, "a root that may not be", api.ErrKind, with(dir(1, ""), func(n *api.Node) { n.Attr.Mode = 512 }))
}

func TestCheckOfParents(t *testing.T) {
	root := dir(1, "")
	checks(t, "none", api.ErrParent, root, file(2, "a/b"))
	checks(t, "none of a directory", api.ErrParent, root, dir(2, "a/b"))
	checks(t, "none in between", api.ErrParent, root, dir(2, "a"), file(3, "a/b/c"))
	checks(t, "none at the beginning", api.ErrParent, root, dir(2, "a/b"), file(3, "a/b/c"))
	checks(t, "one of another name", api.ErrParent, root, dir(2, "ab"), file(3, "a/b"))
	for _, kind := range []int{api.File, api.Link, api.White, 0, 5} {
		checks(t, "one that is none", api.ErrParent, root, node(kind, 2, "a"), file(3, "a/b"))
		checks(t, "one that is none, deeper", api.ErrParent, root, dir(2, "a"), node(kind, 3, "a/b"), dir(4, "a/b/c"))
	}
	checks(t, "no parent, a kind that is none, Inos that differ", api.ErrParent, root, node(9, 5, "x"), file(2, "a/b"), link(2, "c"))
}

func TestCheckOfLinks(t *testing.T) {
	root := dir(1, "")
	checks(t, "the root and a file", api.ErrLinks, root, file(1, "a"))
	checks(t, "the root and a directory", api.ErrLinks, root, dir(1, "a"))
	checks(t, "two directories", api.ErrLinks, root, dir(2, "a"), dir(2, "b"))
	checks(t, "a directory and a file", api.ErrLinks, root, dir(2, "a"), file(2, "b"))
	checks(t, "directories of a negative Ino", api.ErrLinks, root, dir(-2, "a"), dir(-2, "b"))
	checks(t, "directories of the Ino 0", api.ErrLinks, root, dir(0, "a"), dir(0, "b"))
	full := with(file(3, "a"), func(n *api.Node) {
		n.Attr = api.Attr{Mode: 420, Uid: 5, Gid: 6}
		n.Data = []byte("abc")
		n.Xattrs = []api.Xattr{{Name: "a", Value: []byte("v")}, {Name: "b"}}
	})
	other := with(full, func(n *api.Node) { n.Names = []string{"b"} })
	checks(t, "two that are alike", api.OK, root, full, other)
	for what, change := range map[string]func(n *api.Node){
		"Kind": func(n *api.Node) { n.Kind, n.Data, n.Target = api.Link, nil, "t" },
		"Mode": func(n *api.Node) { n.Attr.Mode++ }, "Uid": func(n *api.Node) { n.Attr.Uid++ }, "Gid": func(n *api.Node) { n.Attr.Gid++ },
		"Data": func(n *api.Node) { n.Data = []byte("abd") }, "shorter Data": func(n *api.Node) { n.Data = []byte("ab") }, "no Data": func(n *api.Node) { n.Data = nil },
		"Xattrs": func(n *api.Node) { n.Xattrs = n.Xattrs[:1] }, "a name": func(n *api.Node) { n.Xattrs = []api.Xattr{n.Xattrs[0], {Name: "c"}} },
		"a value": func(n *api.Node) { n.Xattrs = []api.Xattr{n.Xattrs[0], {Name: "b", Value: []byte("w")}} },
	} {
		odd := with(other, change)
		checks(t, what, api.ErrLinks, root, full, odd)
		checks(t, what+", of three", api.ErrLinks, root, full, with(full, func(n *api.Node) { n.Names = []string{"c"} }), odd)
		odd.Ino = 4
		checks(t, what+", of two Inos", api.OK, root, full, odd)
	}
	checks(t, "Targets", api.ErrLinks, root, link(2, "a"), with(link(2, "b"), func(n *api.Node) { n.Target = "u" }))
	checks(t, "lists that are empty and nil", api.OK, root, file(2, "a"), with(file(2, "b"), func(n *api.Node) { n.Data, n.Xattrs = []byte{}, []api.Xattr{} }))
	checks(t, "links that differ, of which one may not be", api.ErrKind, root, file(2, "a"), with(file(2, "b"), func(n *api.Node) { n.Opaque = true }))
}

// TestCheckOfSeveralErrors: of each two errors at once the one that is named first is told, whatever the order of the nodes.
func TestCheckOfSeveralErrors(t *testing.T) {
	faults := []struct {
		want api.Errno
		l    []api.Node
	}{
		{api.ErrName, []api.Node{named(10, "p", "")}},
		{api.ErrDeep, []api.Node{file(20, strings.Repeat("p/", 16)+"p")}},
		{api.ErrTwice, []api.Node{file(30, "t"), file(31, "t")}},
		{api.ErrRoot, nil}, // the root is left out
		{api.ErrParent, []api.Node{file(40, "q/r")}},
		{api.ErrKind, []api.Node{node(7, 50, "k")}},
		{api.ErrLinks, []api.Node{file(60, "l"), link(60, "m")}},
	}
	for most := range 1 << len(faults) {
		l, want := []api.Node{dir(1, ""), file(2, "a")}, api.OK
		for i, f := range slices.Backward(faults) {
			if most>>i&1 == 1 {
				want = f.want
				l = append(l, f.l...)
				if f.want == api.ErrRoot {
					l = l[1:]
				}
			}
		}
		for turn := range len(l) {
			checks(t, "several at once", want, append(slices.Clone(l[turn:]), l[:turn]...)...)
		}
	}
}

// slowCheck is P7.1 word by word, each pair of nodes held against each other.
func slowCheck(l []api.Node) api.Errno {
	for _, n := range l {
		for _, s := range n.Names {
			if e := name.Valid(s); e != api.OK {
				return e
			}
		}
	}
	var deep, twice, noParent, wrong, links bool
	root := false
	for i, n := range l {
		deep = deep || len(n.Names) > 16
		root = root || len(n.Names) == 0 && n.Kind == 1
		parent := len(n.Names) == 0
		for j, m := range l {
			parent = parent || m.Kind == 1 && slices.Equal(m.Names, n.Names[:len(n.Names)-1])
			twice = twice || i != j && slices.Equal(n.Names, m.Names)
			links = links || i != j && n.Ino == m.Ino && (!slowAlike(n, m) || n.Kind == 1 || m.Kind == 1)
		}
		noParent = noParent || !parent
		wrong = wrong || n.Kind < 1 || n.Kind > 3 || n.Kind != 2 && len(n.Data) > 0 || (n.Kind == 3) != (n.Target != "") || n.Opaque
	}
	for i, is := range []bool{deep, twice, !root, noParent, wrong, links} {
		if is {
			return []api.Errno{api.ErrDeep, api.ErrTwice, api.ErrRoot, api.ErrParent, api.ErrKind, api.ErrLinks}[i]
		}
	}
	return api.OK
}

// rowsOf calls with each row of at most so many of these nodes.
func rowsOf(pool []api.Node, most int, call func(l []api.Node)) {
	var rest func(l []api.Node)
	rest = func(l []api.Node) {
		call(l)
		if len(l) < most {
			for _, n := range pool {
				rest(append(slices.Clip(l), n))
			}
		}
	}
	rest(nil)
}

func TestCheckIsTheRule(t *testing.T) {
	pool := []api.Node{
		dir(1, ""), file(2, ""), dir(2, "a"), file(2, "a"), file(3, "b"), link(3, "b"), file(3, "a/b"), dir(4, "a/b"), link(3, "a/b/c"), dir(1, "c"),
		named(5, "x", ".."), file(6, strings.Repeat("a/", 16)+"a"), with(file(3, "d"), func(n *api.Node) { n.Data = []byte("x") }), node(4, 7, "w"),
	}
	seen := map[api.Errno]int{}
	rowsOf(pool, 4, func(l []api.Node) {
		want := slowCheck(l)
		seen[want]++
		if e := tree.Check(l); e != want {
			t.Fatalf("Check(%v): %d, wanted %d", l, e, want)
		}
		c, e := tree.Canon(l)
		if e != want || e == api.OK && !same(c, slowCanon(l)) || e != api.OK && c != nil {
			t.Fatalf("Canon(%v): %v, %d", l, c, e)
		}
	})
	if len(seen) != 8 {
		t.Errorf("errors that were met: %v", seen)
	}
}

// P7.3.

// slowCanon takes the least node that is left, again and again.
func slowCanon(l []api.Node) []api.Node {
	var c []api.Node
	left := slices.Clone(l)
	inos := []int{}
	for len(left) > 0 {
		least := 0
		for i := range left {
			if name.Less(left[i].Names, left[least].Names) {
				least = i
			}
		}
		n := left[least]
		left = slices.Delete(left, least, least+1)
		if !slices.Contains(inos, n.Ino) {
			inos = append(inos, n.Ino)
		}
		n.Ino = slices.Index(inos, n.Ino) + 1
		c = append(c, n)
	}
	return c
}

// canons asks that Canon of l is just want.
func canons(t *testing.T, what string, l, want []api.Node) {
	t.Helper()
	if c, e := tree.Canon(l); e != api.OK || !same(c, want) {
		t.Errorf("%s: %v, %d, wanted %v", what, c, e, want)
	}
}

func TestCanonTable(t *testing.T) {
	canons(t, "a root", []api.Node{dir(77, "")}, []api.Node{dir(1, "")})
	canons(t, "several", []api.Node{file(9, "d/f"), link(4, "l"), dir(7, ""), dir(3, "d"), file(9, "a")},
		[]api.Node{dir(1, ""), file(2, "a"), dir(3, "d"), file(2, "d/f"), link(4, "l")})
	canons(t, "names, not paths", []api.Node{file(1, "a!"), dir(2, "a"), file(3, "a/z"), dir(4, ""), file(5, "ab")},
		[]api.Node{dir(1, ""), dir(2, "a"), file(3, "a/z"), file(4, "a!"), file(5, "ab")})
	canons(t, "bytes, not letters", []api.Node{file(1, "\xff"), file(2, "é"), file(3, "z"), file(4, "Z"), file(5, "10"), file(6, "9"), dir(7, "")},
		[]api.Node{dir(1, ""), file(2, "10"), file(3, "9"), file(4, "Z"), file(5, "z"), file(6, "é"), file(7, "\xff")})
	canons(t, "Inos of any numbers", []api.Node{file(0, "c"), file(-1, "b"), dir(-1<<63, "a"), file(0, "a/b"), dir(1<<63-1, ""), file(-1, "d")},
		[]api.Node{dir(1, ""), dir(2, "a"), file(3, "a/b"), file(4, "b"), file(3, "c"), file(4, "d")})
	canons(t, "Inos that are the new ones of others", []api.Node{dir(3, ""), file(1, "a"), file(2, "b"), file(1, "c")},
		[]api.Node{dir(1, ""), file(2, "a"), file(3, "b"), file(2, "c")})
}

// rich is a tree whose nodes have something in each field.
func rich() []api.Node {
	attrs := func(n *api.Node) {
		n.Attr = api.Attr{Mode: 493, Uid: 1, Gid: 65535}
		n.Xattrs = []api.Xattr{{Name: "a", Value: []byte("value")}, {Name: "b"}, {Name: "c", Value: []byte{0, 1}}}
	}
	data := func(n *api.Node) { n.Data = []byte("data\x00") }
	return []api.Node{
		with(dir(1, ""), attrs), with(with(file(2, "a"), data), attrs), with(dir(3, "d"), attrs), with(with(file(2, "d/b"), data), attrs),
		with(link(4, "d/l"), func(n *api.Node) { n.Target = "../a"; attrs(n) }), with(file(5, "e"), data),
	}
}

func TestCanonOfWhatIsInOrder(t *testing.T) {
	canons(t, "in order", rich(), rich())
	c, _ := tree.Canon(rich())
	canons(t, "Canon of Canon", c, c)
}

// P7.4: in any order, with any numbers.
func TestCanonOfAnyOrder(t *testing.T) {
	want := rich()
	inos := [][]int{{0, 1, 2, 3, 4, 5}, {0, 5, 4, 3, 2, 1}, {0, -3, 1 << 40, 0, -1 << 63, 1<<63 - 1}, {9, 2, 1, 4, 5, 3}}
	orders := 0
	var rest func(taken, left []api.Node)
	rest = func(taken, left []api.Node) {
		if len(left) == 0 {
			l := slices.Clone(taken)
			for i := range l {
				l[i].Ino = inos[orders%len(inos)][l[i].Ino]
			}
			canons(t, "another order", l, want)
			orders++
		}
		for i, n := range left {
			rest(append(slices.Clip(taken), n), slices.Delete(slices.Clone(left), i, i+1))
		}
	}
	rest(nil, rich())
	if orders != 720 {
		t.Errorf("%d orders", orders)
	}
}

func TestCanonOfManyNodes(t *testing.T) {
	var want []api.Node
	want = append(want, dir(1, ""))
	for i := range 31 {
		top := string([]byte{byte('A' + i)})
		want = append(want, dir(len(want)+1, top))
		for j := range 32 {
			want = append(want, file(len(want)+1, top+"/"+string([]byte{byte('0' + j)})))
		}
	}
	want = slices.DeleteFunc(want, func(n api.Node) bool { return n.Ino > 1024 })
	l := make([]api.Node, len(want))
	for i, n := range want {
		n.Ino = -n.Ino * 3
		l[i*389%len(l)] = n
	}
	canons(t, "1024 nodes", l, want)
}

// TestCanonIsTheCallersOwn: what is handed in stays as it was, its spare room too, and shares nothing with what is answered (R7).
func TestCanonIsTheCallersOwn(t *testing.T) {
	spare := file(99, "spare")
	room := append(rich(), spare)
	l := room[:len(room)-1]
	slices.Reverse(l)
	shared := []byte("0123456789")
	parts := []string{"d", "x", "y"}
	for i := range l {
		if l[i].Kind == api.File {
			l[i].Data = shared[2:5]
		}
		for j := range l[i].Xattrs {
			l[i].Xattrs[j].Value = shared[1:6]
		}
	}
	l[slices.IndexFunc(l, func(n api.Node) bool { return len(n.Names) == 1 && n.Names[0] == "d" })].Names = parts[:1]
	l[slices.IndexFunc(l, func(n api.Node) bool { return n.Target != "" })].Names = parts[:2]
	before := deep(room)
	c, e := tree.Canon(l)
	if e != api.OK || !same(room, before) {
		t.Fatalf("%d, %v", e, room)
	}
	want := deep(c)
	for i := range c {
		spoil(&c[i])
		if !same(room, before) || !same(c[i+1:], want[i+1:]) {
			t.Fatalf("the %d-th is shared", i)
		}
	}
	_ = append(c, spare)
	if string(shared) != "0123456789" || !slices.Equal(parts, []string{"d", "x", "y"}) || !same(room, before) {
		t.Errorf("%q, %q", shared, parts)
	}
	canons(t, "again", l, want)
	tree.Check(l)
	if !same(room, before) {
		t.Error("Check changed what was handed in")
	}
}

// deep is nodes that share nothing with these.
func deep(l []api.Node) []api.Node {
	l = slices.Clone(l)
	for i := range l {
		l[i].Names, l[i].Data, l[i].Xattrs = slices.Clone(l[i].Names), slices.Clone(l[i].Data), slices.Clone(l[i].Xattrs)
		for j := range l[i].Xattrs {
			l[i].Xattrs[j].Value = slices.Clone(l[i].Xattrs[j].Value)
		}
	}
	return l
}

// spoil writes over all of a node's lists, and behind their ends.
func spoil(n *api.Node) {
	for i := range n.Names {
		n.Names[i] = "spoilt"
	}
	_ = append(n.Names, "spoilt", "spoilt")
	for i := range n.Xattrs {
		for j := range n.Xattrs[i].Value {
			n.Xattrs[i].Value[j] = 'S'
		}
		_ = append(n.Xattrs[i].Value, "SSSS"...)
		n.Xattrs[i].Name = "spoilt"
	}
	_ = append(n.Xattrs, api.Xattr{Name: "spoilt"})
	for i := range n.Data {
		n.Data[i] = 'S'
	}
	_ = append(n.Data, "SSSS"...)
}
