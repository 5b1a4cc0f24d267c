package branch_test

import (
	"fmt"
	"slices"
	"strings"
	"testing"

	"lamella/api"
	"lamella/branch"
	"lamella/name"
	"lamella/tree"
)

// P18.1: Check; and of P18.2 what Fill tells of what may not be.

// checks is of nodes in three orders: Check tells want, and Fill the same, with a branch that tells of them just if that is OK.
func checks(t *testing.T, what string, want api.Errno, l ...api.Node) {
	t.Helper()
	back := slices.Clone(l)
	slices.Reverse(back)
	half := len(l) / 2
	for order, l := range map[string][]api.Node{"as it is": l, "from the last on": back, "from the middle on": slices.Concat(l[half:], l[:half])} {
		if e := branch.Check(l); e != want {
			t.Errorf("%s, %s: Check: error %d, wanted %d", what, order, e, want)
		}
		u, e := branch.Fill(much, l)
		if e != want || (u != nil) != (want == api.OK) {
			t.Errorf("%s, %s: Fill: %p, error %d, wanted %d", what, order, u, e, want)
		}
		if want == api.OK && u != nil {
			tells(t, what, u, canonical(l))
		}
	}
}

func TestCheckExamples(t *testing.T) {
	checks(t, "a root and a White", api.OK, rooted(white("a"))...)
	checks(t, "a root and a White with a node in it", api.ErrParent, rooted(white("a"), file("a/b", ""))...)
}

func TestCheckOfTrees(t *testing.T) {
	for what, l := range trees() {
		checks(t, what, api.OK, l...)
	}
	for what, l := range greatTrees() {
		checks(t, what, api.OK, l...)
	}
	for seed := range 300 {
		checks(t, fmt.Sprint("any tree, ", seed), api.OK, anyTree(seed)...)
	}
}

func TestCheckOfNone(t *testing.T) {
	checks(t, "none", api.ErrRoot)
	for what, l := range map[string][]api.Node{"nil": nil, "no nodes": {}, "none, with room": world()[:0]} {
		if e := branch.Check(l); e != api.ErrRoot {
			t.Errorf("%s: Check: error %d", what, e)
		}
		if u, e := branch.Fill(much, l); u != nil || e != api.ErrRoot {
			t.Errorf("%s: Fill: %p, error %d", what, u, e)
		}
	}
}

// TestCheckOfPlainNodes: what has neither Whites nor Opaque is what tree.Check tells of it.
func TestCheckOfPlainNodes(t *testing.T) {
	for what, l := range plainTrees() {
		for i := range l {
			for fault, change := range map[string]func(n *api.Node){
				"nothing": func(n *api.Node) {}, "no names": func(n *api.Node) { n.Names = nil }, "a long name": func(n *api.Node) { n.Names = named(strings.Repeat("x", 256)) }, "no name": func(n *api.Node) { n.Names = []string{""} },
				"many names": func(n *api.Node) { n.Names = named(strings.Repeat("x/", 16) + "x") }, "another place": func(n *api.Node) { n.Names = named("q/r") }, "a Mode of 512": func(n *api.Node) { n.Attr.Mode = 512 },
				"a Kind of 0": func(n *api.Node) { n.Kind = 0 }, "a file": func(n *api.Node) { n.Kind = api.File }, "a directory": func(n *api.Node) { n.Kind = api.Dir }, "the first Ino": func(n *api.Node) { n.Ino = l[0].Ino },
				"a Target": func(n *api.Node) { n.Target = "t" }, "Data": func(n *api.Node) { n.Data = []byte("d") }, "attributes that fall": func(n *api.Node) { n.Xattrs = []api.Xattr{xattr("b", ""), xattr("a", "")} },
			} {
				changed := slices.Clone(l)
				change(&changed[i])
				checks(t, fmt.Sprintf("%s, the node %d with %s", what, i, fault), tree.Check(changed), changed...)
			}
		}
	}
}

// field is a change of one field, and whether a directory, a file and a symbolic link may be so. A White may not, if it has something then.
type field struct {
	what            string
	change          func(n *api.Node)
	dir, file, link bool
	white           bool
}

func fields() []field {
	l := []field{
		{"nothing", func(n *api.Node) {}, true, true, true, true},
		{"lists that are empty", func(n *api.Node) { n.Data, n.Xattrs = nil, []api.Xattr{} }, true, true, true, true},
		{"a byte of Data", func(n *api.Node) { n.Data = []byte{0} }, false, true, false, false},
		{"4096 bytes", func(n *api.Node) { n.Data = make([]byte, 4096) }, false, true, false, false},
		{"4097 bytes", func(n *api.Node) { n.Data = make([]byte, 4097) }, false, false, false, false},
		{"a Target", func(n *api.Node) { n.Target = "to" }, false, false, true, false},
		{"no Target", func(n *api.Node) { n.Target = "" }, true, true, false, true},
		{"a Target of 200 bytes", func(n *api.Node) { n.Target = strings.Repeat("t", 200) }, false, false, true, false},
		{"a Target of 201 bytes", func(n *api.Node) { n.Target = strings.Repeat("t", 201) }, false, false, false, false},
		{"a Target of a nought", func(n *api.Node) { n.Target = "\x00" }, false, false, false, false},
		{"a Mode of 512", func(n *api.Node) { n.Attr.Mode = 512 }, false, false, false, false},
		{"a Mode below 0", func(n *api.Node) { n.Attr.Mode = -1 }, false, false, false, false},
		{"a Uid of 65536", func(n *api.Node) { n.Attr.Uid = 65536 }, false, false, false, false},
		{"a Gid below 0", func(n *api.Node) { n.Attr.Gid = -1 }, false, false, false, false},
	}
	for what, change := range map[string]func(n *api.Node){
		"a Mode of 1": func(n *api.Node) { n.Attr.Mode = 1 }, "a Mode of 511": func(n *api.Node) { n.Attr.Mode = 511 },
		"a Uid of 1": func(n *api.Node) { n.Attr.Uid = 1 }, "a Uid of 65535": func(n *api.Node) { n.Attr.Uid = 65535 },
		"a Gid of 1": func(n *api.Node) { n.Attr.Gid = 1 }, "a Gid of 65535": func(n *api.Node) { n.Attr.Gid = 65535 },
		"an attribute": func(n *api.Node) { n.Xattrs = []api.Xattr{xattr("a", "")} }, "attributes": func(n *api.Node) { n.Xattrs = []api.Xattr{xattr("a", "v"), xattr("b", "v")} },
	} {
		l = append(l, field{what, change, true, true, true, false})
	}
	for what, x := range map[string][]api.Xattr{
		"attributes that fall": {xattr("b", ""), xattr("a", "")}, "an attribute without a name": {xattr("", "")}, "an attribute of 41 bytes": {xattr(strings.Repeat("n", 41), "")},
		"a value of 201 bytes": {xattr("a", strings.Repeat("v", 201))}, "an attribute of a nought": {xattr("\x00", "")}, "an attribute twice": {xattr("a", ""), xattr("a", "")},
		"9 attributes": {xattr("a", ""), xattr("b", ""), xattr("c", ""), xattr("d", ""), xattr("e", ""), xattr("f", ""), xattr("g", ""), xattr("h", ""), xattr("i", "")},
	} {
		l = append(l, field{what, func(n *api.Node) { n.Xattrs = x }, false, false, false, false})
	}
	return l
}

func kindError(good bool) api.Errno {
	if good {
		return api.OK
	}
	return api.ErrKind
}

// TestCheckOfFields: one field of a node of each kind is changed, of one that is Opaque too, beside others that may be, at two depths.
func TestCheckOfFields(t *testing.T) {
	for _, f := range fields() {
		for _, path := range []string{"x", "d/x"} {
			for _, x := range []struct {
				n    api.Node
				good bool
			}{
				{dir(path), f.dir}, {opaque(dir(path)), f.dir}, {file(path, ""), f.file}, {link(path, "t"), f.link}, {white(path), f.white},
				{opaque(file(path, "")), false}, {opaque(link(path, "t")), false}, {opaque(white(path)), false},
			} {
				what := fmt.Sprintf("%s: the kind %d, Opaque %v, with %s", path, x.n.Kind, x.n.Opaque, f.what)
				checks(t, what, kindError(x.good), rooted(white("a"), opaque(dir("d")), with(x.n, f.change), white("d/y"), file("z", ""))...)
			}
		}
		for _, root := range []api.Node{dir(""), opaque(dir(""))} {
			checks(t, fmt.Sprintf("a root, Opaque %v, with %s", root.Opaque, f.what), kindError(f.dir), numbered(with(root, f.change), white("a"))...)
		}
	}
}

func TestCheckOfKinds(t *testing.T) {
	for _, kind := range []int{-1 << 63, -4, -1, 0, 5, 6, 8, 255, 256 + 4, 1<<32 + 4, 1<<63 - 1} {
		n := with(white("x"), func(n *api.Node) { n.Kind = kind })
		checks(t, fmt.Sprint("the kind ", kind), api.ErrKind, rooted(n, white("y"))...)
		checks(t, fmt.Sprint("the kind ", kind, ", Opaque"), api.ErrKind, rooted(opaque(n), opaque(dir("d")))...)
		n.Names = nil
		checks(t, fmt.Sprint("a root of the kind ", kind), api.ErrRoot, numbered(n, white("y"))...)
	}
}

func TestCheckOfRoots(t *testing.T) {
	checks(t, "an Opaque root", api.OK, numbered(opaque(dir("")), file("a", ""))...)
	for what, root := range map[string]api.Node{"a White": white(""), "an Opaque White": opaque(white("")), "a White with a Mode": attr(white(""), 493, 0, 0), "an Opaque file": opaque(file("", "")), "an Opaque symbolic link": opaque(link("", "t"))} {
		checks(t, what+" as the root alone", api.ErrRoot, root)
		checks(t, what+" as the root", api.ErrRoot, numbered(root, white("a"), opaque(dir("d")))...)
		checks(t, what+" as the root, and nothing in it that may be", api.ErrRoot, numbered(root, file("a/b", ""), opaque(file("c", "")))...)
		checks(t, what+" beside a root", api.ErrTwice, rooted(root)...)
	}
	checks(t, "a White alone", api.ErrRoot, white("a"))
	checks(t, "Opaque directories alone", api.ErrRoot, numbered(opaque(dir("a")), opaque(dir("a/b")))...)
}

func TestCheckOfParents(t *testing.T) {
	for what, n := range map[string]api.Node{"a White": white("a/b"), "a directory": dir("a/b"), "an Opaque directory": opaque(dir("a/b")), "a file": file("a/b", ""), "a symbolic link": link("a/b", "t")} {
		checks(t, what+" in a directory", api.OK, rooted(dir("a"), n)...)
		checks(t, what+" in an Opaque directory", api.OK, rooted(opaque(dir("a")), n)...)
		checks(t, what+" in a White", api.ErrParent, rooted(white("a"), n)...)
		checks(t, what+" in a White that may not be", api.ErrParent, rooted(attr(white("a"), 1, 0, 0), n)...)
		checks(t, what+" in an Opaque White", api.ErrParent, rooted(opaque(white("a")), n)...)
		checks(t, what+" in a file", api.ErrParent, rooted(file("a", ""), n)...)
		checks(t, what+" in an Opaque file", api.ErrParent, rooted(opaque(file("a", "")), n)...)
		checks(t, what+" in nothing", api.ErrParent, rooted(n)...)
		checks(t, what+" in nothing, beside a White", api.ErrParent, rooted(n, white("b"), dir("c"), white("c/a"))...)
		checks(t, what+" in a White in a directory", api.ErrParent, rooted(opaque(dir("d")), white("d/a"), with(n, func(n *api.Node) { n.Names = named("d/a/b") }))...)
	}
	checks(t, "a node two deep in a White", api.ErrParent, rooted(white("a"), dir("a/b"), file("a/b/c", ""))...)
}

func TestCheckOfNames(t *testing.T) {
	long := strings.Repeat("x", 255)
	for what, n := range map[string]api.Node{"a White": white(""), "an Opaque directory": opaque(dir("")), "an Opaque file": opaque(file("", ""))} {
		at := func(names ...string) api.Node { return with(n, func(n *api.Node) { n.Names = names }) }
		if n.Kind != api.File {
			checks(t, what+" with a name of 255 bytes", api.OK, rooted(at(long))...)
			checks(t, what+" with 16 names", api.OK, append(chain(15), one(1, at(named(strings.Repeat("d/", 15)+"x")...)))...)
		}
		checks(t, what+" with a name of 256 bytes", api.ErrLong, rooted(at(long+"x"))...)
		checks(t, what+" with 17 names", api.ErrDeep, append(chain(16), one(1, at(named(strings.Repeat("d/", 16)+"x")...)))...)
		for _, s := range []string{"", ".", "..", "/", "a/b", "\x00", "a\x00"} {
			checks(t, fmt.Sprintf("%s of the name %q", what, s), api.ErrName, rooted(at(s))...)
			checks(t, fmt.Sprintf("%s of a name in %q", what, s), api.ErrName, rooted(at(s, "a"))...)
		}
	}
	for what, x := range map[string]struct {
		want api.Errno
		l    []api.Node
	}{
		"a long one ahead": {api.ErrLong, rooted(white(long+"x"), api.Node{Kind: api.White, Names: []string{"."}})},
		"a long one next":  {api.ErrName, rooted(api.Node{Kind: api.White, Names: []string{"a", ".."}}, opaque(dir(long+"x")))},
	} {
		if e := branch.Check(x.l); e != x.want {
			t.Errorf("%s: Check: error %d, wanted %d", what, e, x.want)
		}
		if u, e := branch.Fill(much, x.l); u != nil || e != x.want {
			t.Errorf("%s: Fill: %p, error %d, wanted %d", what, u, e, x.want)
		}
	}
}

func TestCheckOfTwo(t *testing.T) {
	kinds := map[string]func(path string) api.Node{
		"a White": white, "a directory": dir, "an Opaque directory": func(path string) api.Node { return opaque(dir(path)) },
		"a file": func(path string) api.Node { return file(path, "") }, "a symbolic link": func(path string) api.Node { return link(path, "t") },
	}
	for what, first := range kinds {
		for other, second := range kinds {
			checks(t, what+" and "+other, api.ErrTwice, rooted(first("a"), second("a"))...)
			checks(t, what+" and "+other+" of one Ino", api.ErrTwice, rooted(one(1, first("a")), one(1, second("a")))...)
			checks(t, what+" and "+other+" in an Opaque directory", api.ErrTwice, rooted(opaque(dir("d")), first("d/a"), second("d/a"), white("a"))...)
		}
	}
	checks(t, "two roots, of which one is Opaque", api.ErrTwice, numbered(dir(""), opaque(dir("")))...)
}

// TestCheckOfLinks: a White shares its Ino with nothing, and neither does a directory, Opaque or not; files and symbolic links may with what is like them.
func TestCheckOfLinks(t *testing.T) {
	good := map[string][2]api.Node{"files": {file("a", "x"), file("b", "x")}, "empty files": {file("a", ""), file("b", "")}, "symbolic links": {link("a", "t"), link("b", "t")}}
	bad := map[string][2]api.Node{
		"Whites": {white("a"), white("b")}, "a White and an empty file": {white("a"), file("b", "")}, "a White and a file": {white("a"), file("b", "x")},
		"a White and a symbolic link": {white("a"), link("b", "t")}, "a White and a directory": {white("a"), dir("b")}, "a White and an Opaque directory": {white("a"), opaque(dir("b"))},
		"a White and a file with a Mode": {white("a"), attr(file("b", ""), 1, 0, 0)}, "Opaque directories": {opaque(dir("a")), opaque(dir("b"))}, "directories, of which one is Opaque": {opaque(dir("a")), dir("b")},
		"an Opaque directory and a file": {opaque(dir("a")), file("b", "")}, "files that differ": {file("a", "x"), file("b", "y")}, "symbolic links that differ": {link("a", "t"), link("b", "u")},
	}
	for _, ino := range []int{500, 0, -1, 1 << 40, -1 << 63, 1<<63 - 1} {
		sharing := func(two [2]api.Node) []api.Node {
			l := rooted(two[0], two[1], dir("d"), white("w"), one(100, file("d/x", "")), one(100, file("d/y", "")), white("d/z"), one(101, link("m", "t")), one(101, link("n", "t")))
			l[0].Ino, l[1].Ino, l[2].Ino = 50, ino, ino
			return l
		}
		for what, two := range good {
			checks(t, fmt.Sprintf("%s of the Ino %d", what, ino), api.OK, sharing(two)...)
		}
		for what, two := range bad {
			checks(t, fmt.Sprintf("%s of the Ino %d", what, ino), api.ErrLinks, sharing(two)...)
			apart := sharing(two)
			apart[1].Ino = 51
			checks(t, what+" of two Inos", api.OK, apart...)
			deep := sharing(two)
			deep[1].Names, deep[2].Names = named("d/p"), named("d/q")
			checks(t, what+" in a directory", api.ErrLinks, deep...)
		}
	}
	checks(t, "a White of the root's Ino", api.ErrLinks, attr(one(1, dir("")), 1, 0, 0), one(1, white("a")))
	checks(t, "a White of an Opaque root's Ino", api.ErrLinks, one(1, opaque(dir(""))), one(1, white("a")))
	checks(t, "a White of three names", api.ErrLinks, rooted(dir("d"), one(1, white("a")), one(1, white("d/b")), one(1, white("c")))...)
	checks(t, "a White between files that are one", api.ErrLinks, rooted(one(1, file("a", "")), one(1, white("b")), one(1, file("c", "")))...)
	checks(t, "Whites of one Ino, of which one may not be", api.ErrKind, rooted(one(1, white("a")), one(1, opaque(white("b"))))...)
}

// TestCheckOfManyNodes: ErrBig comes ahead of all else.
func TestCheckOfManyNodes(t *testing.T) {
	for what, l := range greatTrees() {
		for more, n := range map[string]api.Node{
			"a White": white("x"), "an Opaque directory": opaque(dir("x")), "an Opaque file": opaque(file("x", "")), "a White twice": white("5"), "a second root": white(""), "a White without a parent": white("x/y"),
			"a wrong name": white("a//b"), "a long one": white(strings.Repeat("x", 256)), "a deep one": white(strings.Repeat("x/", 16) + "x"), "a White of another's Ino": with(white("x"), func(n *api.Node) { n.Ino = l[9].Ino }),
		} {
			checks(t, what+", and "+more, api.ErrBig, append(slices.Clone(l), n)...)
		}
		checks(t, what+" without a root", api.ErrBig, append(slices.Clone(l[1:]), white("x"), white("y"))...)
	}
	checks(t, "many more", api.ErrBig, slices.Repeat([]api.Node{white("a")}, 5000)...)
	checks(t, "1024 Whites of one name", api.ErrTwice, slices.Repeat([]api.Node{white("a")}, 1024)...)
}

// TestCheckOfSeveralErrors: of all that are there at once the one that is named first is told; faults are of nodes of a tree of files, of Whites, and of Opaque ones.
func TestCheckOfSeveralErrors(t *testing.T) {
	faults := [][]struct {
		want api.Errno
		l    []api.Node
	}{
		{{api.ErrName, []api.Node{file("p//q", "")}}, {api.ErrName, []api.Node{white("..")}}, {api.ErrLong, []api.Node{opaque(dir(strings.Repeat("n", 256)))}}},
		{{api.ErrDeep, []api.Node{file(strings.Repeat("p/", 16)+"p", "")}}, {api.ErrDeep, []api.Node{white(strings.Repeat("p/", 16) + "p")}}},
		{{api.ErrTwice, []api.Node{file("t", ""), file("t", "")}}, {api.ErrTwice, []api.Node{white("t"), white("t")}}, {api.ErrTwice, []api.Node{opaque(dir("t")), white("t")}}},
		{{api.ErrRoot, nil}, {api.ErrRoot, []api.Node{white("")}}, {api.ErrRoot, []api.Node{opaque(file("", ""))}}}, // the root is left out
		{{api.ErrParent, []api.Node{file("q/r", "")}}, {api.ErrParent, []api.Node{white("q"), white("q/r")}}, {api.ErrParent, []api.Node{opaque(white("q")), file("q/r", "")}}},
		{{api.ErrKind, []api.Node{link("k", "")}}, {api.ErrKind, []api.Node{attr(white("k"), 1, 0, 0)}}, {api.ErrKind, []api.Node{opaque(white("k"))}}, {api.ErrKind, []api.Node{opaque(file("k", ""))}}, {api.ErrKind, []api.Node{attr(opaque(dir("k")), 512, 0, 0)}}},
		{{api.ErrLinks, []api.Node{one(1, file("l", "")), one(1, link("m", "t"))}}, {api.ErrLinks, []api.Node{one(1, white("l")), one(1, white("m"))}}, {api.ErrLinks, []api.Node{one(1, white("l")), one(1, file("m", ""))}}},
	}
	for most := range 1 << len(faults) {
		for variant := range 15 {
			l, want := rooted(white("a"), opaque(dir("b")), white("b/c")), api.OK
			for i, f := range slices.Backward(faults) {
				if most>>i&1 == 0 {
					continue
				}
				x := f[variant%len(f)]
				want = x.want
				l = append(l, x.l...)
				if x.want == api.ErrRoot {
					l = l[1:]
				}
			}
			checks(t, fmt.Sprintf("faults %b, %d", most, variant), want, numbered(l...)...)
		}
	}
}

// slowCheck is P18.1, with what it takes of P7.1, word by word: each pair of nodes is held against each other.
func slowCheck(l []api.Node) api.Errno {
	for _, n := range l {
		for _, s := range n.Names {
			if e := name.Valid(s); e != api.OK {
				return e
			}
		}
	}
	var deep, twice, noParent, wrong, links, root bool
	for i, n := range l {
		deep = deep || len(n.Names) > 16
		root = root || len(n.Names) == 0 && n.Kind == api.Dir
		parent := len(n.Names) == 0
		for j, m := range l {
			parent = parent || m.Kind == api.Dir && slices.Equal(m.Names, n.Names[:len(n.Names)-1])
			twice = twice || i != j && slices.Equal(n.Names, m.Names)
			links = links || i != j && n.Ino == m.Ino && (!alike(n, m) || n.Kind == api.Dir || n.Kind == api.White)
		}
		noParent = noParent || !parent
		wrong = wrong || !slowMay(n)
	}
	for i, is := range []bool{deep, twice, !root, noParent, wrong, links} {
		if is {
			return []api.Errno{api.ErrDeep, api.ErrTwice, api.ErrRoot, api.ErrParent, api.ErrKind, api.ErrLinks}[i]
		}
	}
	return api.OK
}

// slowMay leaves bounds out: those who ask it keep them.
func slowMay(n api.Node) bool {
	switch n.Kind {
	case api.Dir:
		return len(n.Data) == 0 && n.Target == ""
	case api.File:
		return n.Target == "" && !n.Opaque
	case api.Link:
		return len(n.Data) == 0 && n.Target != "" && !n.Opaque
	case api.White:
		return n.Attr == api.Attr{} && len(n.Data) == 0 && n.Target == "" && len(n.Xattrs) == 0 && !n.Opaque
	}
	return false
}

// TestCheckIsTheRule: all rows of at most four of some nodes that meet in few names and Inos.
func TestCheckIsTheRule(t *testing.T) {
	ino := func(ino int, n api.Node) api.Node { return with(n, func(n *api.Node) { n.Ino = ino }) }
	pool := []api.Node{
		ino(1, dir("")), ino(1, opaque(dir(""))), ino(3, white("")), ino(2, dir("a")), ino(2, opaque(dir("a"))), ino(3, white("a")), ino(3, file("a", "")), ino(4, white("a")),
		ino(3, white("b")), ino(3, file("b", "")), ino(3, attr(white("b"), 1, 0, 0)), ino(4, white("a/b")), ino(3, file("a/b", "")), ino(5, opaque(file("c", ""))), ino(5, opaque(white("c"))), ino(1, white("c")), ino(4, opaque(dir("a/b"))),
	}
	seen := map[api.Errno]int{}
	var rest func(l []api.Node)
	rest = func(l []api.Node) {
		want := slowCheck(l)
		seen[want]++
		if e := branch.Check(l); e != want {
			t.Fatalf("Check: error %d, wanted %d, of\n%s", e, want, text(l))
		}
		u, e := branch.Fill(much, l)
		if e != want || (u != nil) != (e == api.OK) {
			t.Fatalf("Fill: %p, error %d, wanted %d, of\n%s", u, e, want, text(l))
		}
		if e == api.OK {
			tells(t, "a row", u, canonical(l))
		}
		if len(l) < 4 {
			for _, n := range pool {
				rest(append(slices.Clip(l), n))
			}
		}
	}
	rest(nil)
	for _, e := range []api.Errno{api.OK, api.ErrTwice, api.ErrRoot, api.ErrParent, api.ErrKind, api.ErrLinks} {
		if seen[e] < 30 {
			t.Errorf("error %d: %d rows", e, seen[e])
		}
	}
}

// TestCheckOfAnyChange: of any tree some node is changed in one or two ways.
func TestCheckOfAnyChange(t *testing.T) {
	seen := map[api.Errno]int{}
	for seed := range 3000 {
		c := chance(seed)
		l := anyTree(seed % 100)
		for range 1 + c.below(2) {
			n, other := &l[c.below(len(l))], l[c.below(len(l))]
			switch c.below(8) {
			case 0:
				n.Ino = other.Ino
			case 1:
				n.Names = other.Names
			case 2:
				n.Kind = c.below(6)
			case 3:
				n.Opaque = !n.Opaque
			case 4:
				*n = white(strings.Join(n.Names, "/"))
			case 5:
				n.Names = append(slices.Clone(other.Names), "new")
			case 6:
				n.Attr.Mode, n.Data, n.Target = 0, nil, pick(&c, "", "t")
			case 7:
				*n = with(other, func(m *api.Node) { m.Names = n.Names })
			}
		}
		want := slowCheck(l)
		seen[want]++
		checks(t, fmt.Sprint("any tree that is changed, ", seed), want, l...)
	}
	for _, e := range []api.Errno{api.OK, api.ErrTwice, api.ErrRoot, api.ErrParent, api.ErrKind, api.ErrLinks} {
		if seen[e] < 30 {
			t.Errorf("error %d: %d trees", e, seen[e])
		}
	}
}
