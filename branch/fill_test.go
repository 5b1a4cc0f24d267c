package branch_test

import (
	"fmt"
	"math"
	"slices"
	"strings"
	"testing"

	"lamella/api"
	"lamella/branch"
	"lamella/image"
	"lamella/upper"
)

// P18.2: Fill; and P18.4.

// made is what Fill comes to, by calls: the nodes are made in canonical order.
func made(t *testing.T, what string, q api.Quota, l []api.Node) *upper.Upper {
	t.Helper()
	u := upper.New(q)
	byPath, byIno := map[string]int{}, map[int]int{}
	for _, n := range canonical(l) {
		depth := len(n.Names)
		ref, known := byIno[n.Ino]
		var e api.Errno
		switch {
		case depth == 0:
			ref = 1
			holds(t, what, u.SetAttr(1, n.Attr))
			holds(t, what, u.SetXattrs(1, n.Xattrs))
		case known:
			e = u.Link(byPath[strings.Join(n.Names[:depth-1], "/")], n.Names[depth-1], ref)
		default:
			ref, e = u.Make(byPath[strings.Join(n.Names[:depth-1], "/")], n.Names[depth-1], n)
		}
		holds(t, what, e)
		if n.Kind == api.Dir {
			holds(t, what, u.SetOpaque(ref, n.Opaque))
		}
		byPath[strings.Join(n.Names, "/")], byIno[n.Ino] = ref, ref
	}
	return u
}

// manyTrees are some of all kinds, and so many more.
func manyTrees(more int) map[string][]api.Node {
	l := trees()
	for seed := range more {
		l[fmt.Sprint("any tree, ", seed)] = anyTree(seed)
	}
	return l
}

// last is a ref behind all that a tree's branch has.
func last(l []api.Node) int { return len(l) + 2 }

// TestFillOfWorld is written out, so that it hangs on no model.
func TestFillOfWorld(t *testing.T) {
	u := filled(t, "a world", world())
	for ref, want := range map[int][]api.Entry{
		1: {
			{Name: "a", Kind: api.File, Ref: 2}, {Name: "d", Kind: api.Dir, Ref: 3}, {Name: "d-s", Kind: api.File, Ref: 8}, {Name: "e", Kind: api.Dir, Ref: 9}, {Name: "empty", Kind: api.File, Ref: 10},
			{Name: "l", Kind: api.Link, Ref: 11}, {Name: "m", Kind: api.Link, Ref: 4}, {Name: "o", Kind: api.Dir, Ref: 12}, {Name: "w", Kind: api.White, Ref: 15}, {Name: "z", Kind: api.File, Ref: 2},
		},
		3:  {{Name: "g", Kind: api.File, Ref: 2}, {Name: "k", Kind: api.Link, Ref: 4}, {Name: "s", Kind: api.Dir, Ref: 5}, {Name: "v", Kind: api.White, Ref: 7}},
		5:  {{Name: "f", Kind: api.File, Ref: 2}, {Name: "w", Kind: api.White, Ref: 6}},
		9:  nil,
		12: {{Name: "x", Kind: api.White, Ref: 13}, {Name: "y", Kind: api.White, Ref: 14}},
	} {
		if got, e := u.List(ref); !slices.Equal(got, want) || e != api.OK {
			t.Errorf("List of %d: %+v, error %d; wanted %+v", ref, got, e, want)
		}
	}
	for ref, want := range map[int]api.Stat{
		1: {Kind: api.Dir, Attr: api.Attr{Mode: 7, Uid: 8, Gid: 9}, Links: 1, Size: 10}, 2: {Kind: api.File, Attr: api.Attr{Mode: 420, Uid: 5, Gid: 300}, Links: 4, Size: 300},
		3: {Kind: api.Dir, Attr: api.Attr{Mode: 448, Uid: 5, Gid: 7}, Links: 1, Size: 4}, 4: {Kind: api.Link, Links: 2, Size: 2}, 6: {Kind: api.White, Links: 1}, 15: {Kind: api.White, Links: 1},
	} {
		if got, e := u.Stat(ref); got != want || e != api.OK {
			t.Errorf("Stat of %d: %+v, error %d; wanted %+v", ref, got, e, want)
		}
	}
	for ref := range 20 {
		if got, want := u.Opaque(ref), ref == 1 || ref == 3 || ref == 12; got != want {
			t.Errorf("Opaque of %d: %v", ref, got)
		}
	}
	if b, e := u.Read(2, 0, 5000); string(b) != mixed(1, 300) || e != api.OK {
		t.Errorf("Read: %q, error %d", b, e)
	}
	if x, e := u.Xattrs(1); !slices.EqualFunc(x, []api.Xattr{xattr("of", "the root")}, sameXattr) || e != api.OK {
		t.Errorf("Xattrs of the root: %q, error %d", x, e)
	}
	if q := u.Used(); q != (api.Quota{Nodes: 15, Bytes: 1317}) {
		t.Errorf("Used: %+v", q)
	}
	if ref, e := u.Make(9, "new", dir("")); ref != 16 || e != api.OK {
		t.Errorf("Make: %d, error %d", ref, e)
	}
}

func TestFillIsWhatIsMade(t *testing.T) {
	for what, l := range manyTrees(200) {
		if got, want := all(filled(t, what, l), last(l)), all(made(t, what, much, l), last(l)); got != want {
			t.Errorf("%s: filled is\n%swanted\n%s", what, got, want)
		}
	}
	for what, l := range greatTrees() {
		if all(filled(t, what, l), last(l)) != all(made(t, what, much, l), last(l)) {
			t.Errorf("%s: filled is another branch", what)
		}
	}
}

// TestFillInAnyOrder: in whatever order the nodes come, and whatever numbers their Inos are, the branch is the same.
func TestFillInAnyOrder(t *testing.T) {
	for what, l := range trees() {
		want := all(filled(t, what, l), last(l))
		c := chance(len(l))
		for turn := range 8 {
			other := slices.Clone(l)
			shuffle(&c, other)
			for i := range other {
				ino := other[i].Ino
				other[i].Ino = []int{ino, 3 * ino, -ino, ino + 1000, 1<<62 - ino, ino << 40, ^ino, ino - 2}[turn]
			}
			if got := all(filled(t, what, other), last(l)); got != want {
				t.Errorf("%s: in order %d filled is\n%swanted\n%s", what, turn, got, want)
			}
		}
	}
}

func TestFillOfRoots(t *testing.T) {
	for what, root := range map[string]api.Node{
		"nothing": dir(""), "an Attr": attr(dir(""), 511, 65535, 1), "that of New": attr(dir(""), 493, 0, 0), "attributes": attributed(dir(""), xattr("a", "b"), xattr("c", "")),
		"Opaque": opaque(dir("")), "all of it": opaque(attributed(attr(dir(""), 1, 2, 3), xattr("a", "b"))), "Names that are empty, not nil": with(dir(""), func(n *api.Node) { n.Names = []string{} }),
	} {
		for other, nodes := range map[string][]api.Node{"alone": nil, "with others": {white("a"), opaque(attributed(attr(dir("d"), 4, 5, 6), xattr("n", "v"))), file("d/f", "")}} {
			l := numbered(append([]api.Node{root}, nodes...)...)
			u := filled(t, what, l)
			s, e := u.Stat(1)
			x, f := u.Xattrs(1)
			if u.Root() != 1 || s != (api.Stat{Kind: api.Dir, Attr: root.Attr, Links: 1, Size: min(len(nodes), 2)}) || !slices.EqualFunc(x, root.Xattrs, sameXattr) || u.Opaque(1) != root.Opaque || e != api.OK || f != api.OK {
				t.Errorf("%s, %s: Stat %+v, Xattrs %q, Opaque %v, errors %d, %d", what, other, s, x, u.Opaque(1), e, f)
			}
			tells(t, what, u, canonical(l))
		}
	}
}

// TestFillOfQuotas: nothing is refused for a quota; Over is told by it.
func TestFillOfQuotas(t *testing.T) {
	for what, l := range trees() {
		used := filled(t, what, l).Used()
		tells(t, what, filled(t, what, l), canonical(l))
		for _, x := range []struct {
			q    api.Quota
			over bool
		}{
			{used, false}, {api.Quota{Nodes: used.Nodes - 1, Bytes: used.Bytes}, true}, {api.Quota{Nodes: used.Nodes, Bytes: used.Bytes - 1}, true}, {api.Quota{Nodes: used.Nodes + 1, Bytes: used.Bytes + 1}, false},
			{api.Quota{}, true}, {api.Quota{Nodes: used.Bytes, Bytes: used.Nodes}, true}, {api.Quota{Nodes: math.MinInt, Bytes: math.MaxInt}, true}, {api.Quota{Nodes: math.MaxInt, Bytes: math.MaxInt}, false},
		} {
			u, e := branch.Fill(x.q, l)
			if u == nil || e != api.OK || u.Used() != used || u.Over() != x.over {
				t.Fatalf("%s: a quota of %+v: error %d, Used %+v, Over %v", what, x.q, e, u.Used(), u.Over())
			}
			tells(t, what, u, canonical(l))
			ref, e := u.Make(1, "new", dir(""))
			now := api.Quota{Nodes: used.Nodes + 1, Bytes: used.Bytes + 67}
			if over := now.Nodes > x.q.Nodes || now.Bytes > x.q.Bytes; ref != used.Nodes+1 || e != api.OK || u.Used() != now || u.Over() != over {
				t.Errorf("%s: a quota of %+v, and a node more: %d, error %d, Used %+v, Over %v", what, x.q, ref, e, u.Used(), u.Over())
			}
		}
	}
}

// TestFillComesBack: Tree of Fill is the tree in canonical order, and Fill of that the same branch again.
func TestFillComesBack(t *testing.T) {
	for what, l := range manyTrees(200) {
		u := filled(t, what, l)
		got := tells(t, what, u, canonical(l))
		again := filled(t, what, got)
		tells(t, what+", again", again, got)
		if all(u, last(l)) != all(again, last(l)) {
			t.Errorf("%s: filled again is\n%swanted\n%s", what, all(again, last(l)), all(u, last(l)))
		}
	}
	for what, l := range greatTrees() {
		got := tells(t, what, filled(t, what, l), canonical(l))
		tells(t, what+", again", filled(t, what, got), got)
	}
	if got := text(tells(t, "a world", filled(t, "a world", world()), canonical(world()))); got != worldText {
		t.Errorf("a world is\n%swanted\n%s", got, worldText)
	}
}

// TestFillOfWhatIsDeep: at each depth there are Whites and Opaque directories.
func TestFillOfWhatIsDeep(t *testing.T) {
	for depth := range 17 {
		l := chain(depth)
		u := filled(t, "a chain", l)
		tells(t, "a chain", u, canonical(l))
		whites := 0
		for i := range depth + 1 {
			ref, e := image.Find(u, slices.Repeat([]string{"d"}, i))
			if e != api.OK || branch.Opaque(u, ref) != (i%2 == 0) {
				t.Errorf("a chain of %d: at %d Opaque %v, error %d", depth, i, branch.Opaque(u, ref), e)
			}
			if x, e := u.Look(ref, "w"); e == api.OK && x.Kind == api.White {
				whites++
			}
		}
		if q := u.Used(); whites != max(depth, 1) || q.Nodes != depth+1+whites {
			t.Errorf("a chain of %d: %d Whites, Used %+v", depth, whites, q)
		}
	}
}

// step is a call of any kind, told as text with what it answered; what it is hangs on c and on last alone.
func step(c *chance, u *upper.Upper, last int) string {
	ref, other := 1+c.below(last), pick(c, 1, 1, 1+c.below(last))
	s, now := pick(c, "a", "b", "d", "w", "z", "new", "x"), pick(c, "a", "new", "x", "y", fmt.Sprint("n", c.below(20)))
	what, e := "", api.OK
	switch kind := c.below(12); kind {
	case 0, 1:
		n := pick(c, dir(""), file("", "new"), link("", "t"), white(""), attributed(file("", ""), xattr("n", "v")))
		made := 0
		made, e = u.Make(other, now, n)
		what = fmt.Sprintf("Make(%d, %q, a node of the kind %d): %d", other, now, n.Kind, made)
	case 2:
		what, e = fmt.Sprintf("Link(%d, %q, %d)", other, now, ref), u.Link(other, now, ref)
	case 3, 4:
		what, e = fmt.Sprintf("Remove(%d, %q)", ref, s), u.Remove(ref, s)
	case 5, 6:
		what, e = fmt.Sprintf("Move(%d, %q, %d, %q)", other, s, ref, now), u.Move(other, s, ref, now)
	case 7:
		what, e = fmt.Sprintf("Write(%d)", ref), u.Write(ref, c.below(5), []byte(now))
	case 8:
		what, e = fmt.Sprintf("Resize(%d)", ref), u.Resize(ref, c.below(10))
	case 9:
		what, e = fmt.Sprintf("SetAttr(%d)", ref), u.SetAttr(ref, api.Attr{Mode: c.below(512), Uid: c.below(3)})
	case 10:
		what, e = fmt.Sprintf("SetXattrs(%d)", ref), u.SetXattrs(ref, pick(c, nil, []api.Xattr{xattr("of", now)}, []api.Xattr{xattr("a", ""), xattr("b", now)}))
	default:
		on := c.below(3) > 0
		what, e = fmt.Sprintf("SetOpaque(%d, %v)", ref, on), u.SetOpaque(ref, on)
	}
	return fmt.Sprintf("%s, error %d", what, e)
}

// TestFillGoesOn: what was filled, or a clone of it, and what was made by calls answer each call the same.
func TestFillGoesOn(t *testing.T) {
	for what, l := range manyTrees(50) {
		for row := range 3 {
			u, v := filled(t, what, l), made(t, what, much, l)
			if row%2 == 1 {
				u = u.Clone()
			}
			c, d := chance(row), chance(row)
			for i := range 40 {
				got, want := step(&c, u, last(l)), step(&d, v, last(l))
				if top := last(l) + i; got != want || all(u, top) != all(v, top) {
					t.Fatalf("%s, row %d, step %d: %s of what was filled, %s of what was made; it is\n%swanted\n%s", what, row, i, got, want, all(u, top), all(v, top))
				}
			}
		}
	}
}

// TestFillIsChanged is written out: each call of a branch that was filled.
func TestFillIsChanged(t *testing.T) {
	u := filled(t, "a tree", rooted(opaque(dir("d")), white("d/w"), one(1, file("d/f", "hi")), one(1, file("g", "hi")), white("w")))
	for i, x := range []struct{ got, want api.Errno }{
		{u.Link(1, "h", 3), api.OK}, {u.Link(1, "w", 3), api.ErrExists}, {u.Link(2, "d", 2), api.ErrIsDir}, {u.Remove(1, "d"), api.ErrFull}, {u.Move(2, "f", 1, "g"), api.ErrExists}, {u.Move(1, "d", 2, "e"), api.ErrLoop},
		{u.Move(2, "f", 1, "f"), api.OK}, {u.Write(3, 2, []byte("!")), api.OK}, {u.Remove(1, "g"), api.OK}, {u.Remove(1, "h"), api.OK}, {u.SetAttr(5, api.Attr{Mode: 1}), api.ErrArg}, {u.Remove(1, "w"), api.OK}, {u.Remove(1, "w"), api.ErrNone},
	} {
		if x.got != x.want {
			t.Errorf("call %d: error %d, wanted %d", i, x.got, x.want)
		}
	}
	tells(t, "a tree", u, []api.Node{attr(one(-1, dir("")), 493, 0, 0), one(-2, opaque(dir("d"))), one(-3, white("d/w")), one(-4, file("f", "hi!"))})
	if e := u.Remove(1, "d"); e != api.OK || u.Used() != (api.Quota{Nodes: 2, Bytes: 2*64 + 4}) {
		t.Errorf("Remove: error %d, Used %+v", e, u.Used())
	}
	if ref, e := u.Make(1, "d", dir("")); ref != 6 || e != api.OK || u.Opaque(6) {
		t.Errorf("Make: %d, error %d, Opaque %v", ref, e, u.Opaque(6))
	}
}
