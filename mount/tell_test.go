package mount_test

import (
	"bytes"
	"fmt"
	"math"
	"slices"
	"strings"
	"testing"

	"lamella/api"
	"lamella/mount"
)

// P15.2: what is told of a node.

// at is the ref that a path leads to.
func at(t *testing.T, m *mount.Image, path string) int {
	t.Helper()
	ref := m.Root()
	for _, s := range named(path) {
		x, e := m.Look(ref, s)
		if e != api.OK {
			t.Fatalf("%s: Look of %s: error %d", path, s, e)
		}
		ref = x.Ref
	}
	return ref
}

func stats(t *testing.T, m *mount.Image, want map[string]api.Stat) {
	t.Helper()
	for path, w := range want {
		if s, e := m.Stat(at(t, m, path)); s != w || e != api.OK {
			t.Errorf("%q: Stat %+v, error %d; wanted %+v", path, s, e, w)
		}
	}
}

func TestRefs(t *testing.T) {
	d := world()
	unnamed := len(d.nodes)
	d.nodes = append(d.nodes, &piece{Inode: api.Inode{Kind: api.File, Links: 1}}, &piece{Inode: api.Inode{Kind: api.Dir, Links: 1}})
	d.super = func(s *api.Super) { s.Inodes = unnamed }
	m := mounts(t, "two records that no list names", d.image())
	if m.Root() != d.ref(worldRoot) {
		t.Errorf("Root %d, wanted %d", m.Root(), d.ref(worldRoot))
	}
	told := map[int]string{}
	for node := range unnamed {
		if _, e := m.Stat(d.ref(node)); e != api.OK {
			t.Errorf("node %d: Stat: error %d", node, e)
		}
		told[d.ref(node)] = "told"
	}
	for ref := -300; ref < 135*256+300; ref++ { // below 0, between any two, and behind all
		if told[ref] == "" {
			isNoRef(t, "a ref that no list told", m, ref)
		}
	}
	isNoRef(t, "a file's record that no list names", m, d.ref(unnamed))
	isNoRef(t, "a directory's record that no list names", m, d.ref(unnamed+1))
	for _, ref := range []int{math.MinInt, math.MinInt + 1, -1 << 32, 1<<32 - 1, 1 << 32, 1<<32 + d.ref(worldA), -d.ref(worldA), math.MaxInt} {
		isNoRef(t, "a ref far away", m, ref)
	}
}

// TestRefsOfBuilt: the root's ref is the last one, as its record is.
func TestRefsOfBuilt(t *testing.T) {
	m := mounts(t, "built", built(t, "built", treeOfWorld()))
	var refs []int
	for _, n := range told(t, "built", m) {
		refs = append(refs, n.Ino)
	}
	slices.Sort(refs)
	refs = slices.Compact(refs)
	if len(refs) != 7 || m.Root() != refs[6] || refs[0] != 0 {
		t.Errorf("refs %v, the root's %d", refs, m.Root())
	}
	for ref := -5; ref < refs[6]+400; ref++ {
		if !slices.Contains(refs, ref) {
			isNoRef(t, "built", m, ref)
		}
	}
}

func TestStat(t *testing.T) {
	m := mounts(t, "a world", world().image())
	stats(t, m, map[string]api.Stat{
		"":    {Kind: api.Dir, Attr: api.Attr{Mode: 493}, Links: 1, Size: 5},
		"a":   {Kind: api.File, Attr: api.Attr{Mode: 420, Uid: 5, Gid: 300}, Links: 2, Size: 300},
		"d":   {Kind: api.Dir, Attr: api.Attr{Mode: 448, Uid: 300, Gid: 5}, Links: 1, Size: 2},
		"d/e": {Kind: api.Dir, Attr: api.Attr{Mode: 2}, Links: 1, Size: 0},
		"d/f": {Kind: api.File, Attr: api.Attr{Mode: 420, Uid: 5, Gid: 300}, Links: 2, Size: 300},
		"l":   {Kind: api.Link, Attr: api.Attr{Mode: 511}, Links: 1, Size: 3},
		"t":   {Kind: api.File, Links: 1, Size: 5},
		"z":   {Kind: api.File, Attr: api.Attr{Mode: 1}, Links: 1, Size: 128},
	})
}

func TestStatOfOwners(t *testing.T) {
	m := mounts(t, "owners", built(t, "owners", owners()))
	stats(t, m, map[string]api.Stat{
		"":    {Kind: api.Dir, Attr: api.Attr{Mode: 493}, Links: 1, Size: 5},
		"a":   {Kind: api.File, Attr: api.Attr{Mode: 0, Uid: 65535, Gid: 0}, Links: 1},
		"b":   {Kind: api.File, Attr: api.Attr{Mode: 511, Uid: 0, Gid: 65535}, Links: 1},
		"c":   {Kind: api.Dir, Attr: api.Attr{Mode: 448, Uid: 500, Gid: 500}, Links: 1, Size: 1},
		"c/d": {Kind: api.Link, Attr: api.Attr{Mode: 1, Uid: 256, Gid: 255}, Links: 1, Size: 1},
		"e":   {Kind: api.File, Attr: api.Attr{Mode: 2, Uid: 1, Gid: 65535}, Links: 1},
		"f":   {Kind: api.Dir, Attr: api.Attr{Mode: 4, Uid: 500, Gid: 256}, Links: 1},
	})
}

func TestStatOfSizes(t *testing.T) {
	m := mounts(t, "files", built(t, "files", filesOfAllSizes()))
	for _, n := range sizes() {
		stats(t, m, map[string]api.Stat{fmt.Sprint("f", n): {Kind: api.File, Links: 1, Size: n}})
	}
	var l []api.Node
	for _, n := range []int{0, 1, 2, 50, 300} {
		path := fmt.Sprint("d", n)
		l = append(l, dir(path))
		for _, f := range manyFiles(n, 0) {
			l = append(l, file(path+"/"+f.Names[0], nil))
		}
	}
	for _, n := range []int{1, 2, 127, 128, 199, 200} {
		l = append(l, link(fmt.Sprint("l", n), strings.Repeat("t", n)))
	}
	m = mounts(t, "directories and symbolic links", built(t, "directories and symbolic links", rooted(l...)))
	for _, n := range []int{0, 1, 2, 50, 300} {
		stats(t, m, map[string]api.Stat{fmt.Sprint("d", n): {Kind: api.Dir, Links: 1, Size: n}})
	}
	for _, n := range []int{1, 2, 127, 128, 199, 200} {
		stats(t, m, map[string]api.Stat{fmt.Sprint("l", n): {Kind: api.Link, Links: 1, Size: n}})
	}
}

func TestStatOfLinks(t *testing.T) {
	m := mounts(t, "files that are one", built(t, "files that are one", oneFiles()))
	for path, links := range map[string]int{"": 1, "a": 3, "b/a": 3, "z": 3, "b/b/c": 3, "x": 3, "w": 1, "b/b/b": 1, "b": 1, "y/a": 1} {
		if s, e := m.Stat(at(t, m, path)); s.Links != links || e != api.OK {
			t.Errorf("%q: Links %d, error %d; wanted %d", path, s.Links, e, links)
		}
	}
	for _, paths := range [][]string{{"a", "b/a", "z"}, {"b/b/c", "b/c", "c"}, {"y/a/a", "y/z", "x"}} {
		for _, path := range paths {
			if at(t, m, path) != at(t, m, paths[0]) {
				t.Errorf("%s: another ref than %s", path, paths[0])
			}
		}
	}
	if at(t, m, "a") == at(t, m, "c") || at(t, m, "w") == at(t, m, "x") {
		t.Error("files that are not one, of one ref")
	}
}

func TestLook(t *testing.T) {
	d := world()
	m := mounts(t, "a world", d.image())
	root, e := m.List(m.Root())
	want := []api.Entry{
		{Name: "a", Kind: api.File, Ref: d.ref(worldA)}, {Name: "d", Kind: api.Dir, Ref: d.ref(worldD)}, {Name: "l", Kind: api.Link, Ref: d.ref(worldL)},
		{Name: "t", Kind: api.File, Ref: d.ref(worldT)}, {Name: "z", Kind: api.File, Ref: d.ref(worldZ)},
	}
	if !slices.Equal(root, want) || e != api.OK {
		t.Errorf("List %v, error %d; wanted %v", root, e, want)
	}
	for _, w := range want {
		if x, e := m.Look(m.Root(), w.Name); x != w || e != api.OK {
			t.Errorf("Look of %s: %+v, error %d", w.Name, x, e)
		}
	}
	none := []string{"", "A", "\x00", "`", "a\x00", "aa", "b", "c\xff", "da", "k", "l\x01", "y", "z\x00", "zz", "\xff", ".", "..", "/", "/a", "a/", "d/f", "d/e", strings.Repeat("a", 256), strings.Repeat("z", 100000)}
	for _, s := range none {
		for node, want := range map[int]api.Errno{
			worldRoot: api.ErrNone, worldD: api.ErrNone, worldE: api.ErrNone,
			worldA: api.ErrNotDir, worldL: api.ErrNotDir, worldT: api.ErrNotDir, worldZ: api.ErrNotDir,
		} {
			if x, e := m.Look(d.ref(node), s); x != (api.Entry{}) || e != want {
				t.Errorf("node %d: Look of %.10q: %+v, error %d; wanted %d", node, s, x, e, want)
			}
		}
	}
	if x, e := m.Look(d.ref(worldE), "a"); x != (api.Entry{}) || e != api.ErrNone {
		t.Errorf("Look in an empty directory: %+v, error %d", x, e)
	}
	if x, e := m.Look(d.ref(worldA), "a"); x != (api.Entry{}) || e != api.ErrNotDir {
		t.Errorf("Look in a file: %+v, error %d", x, e)
	}
}

// TestLookOfMany: names that are, and ones right ahead of and behind each.
func TestLookOfMany(t *testing.T) {
	for _, many := range []int{1, 2, 3, 4, 7, 8, 100, 1023} {
		what := fmt.Sprint(many, " names")
		m := mounts(t, what, built(t, what, rooted(manyFiles(many, 0)...)))
		for i, f := range manyFiles(many, 0) {
			s := f.Names[0]
			if x, e := m.Look(m.Root(), s); x.Name != s || x.Kind != api.File || e != api.OK {
				t.Errorf("%s: Look of %s: %+v, error %d", what, s, x, e)
			}
			ahead := fmt.Sprintf("f%04d\xff", i-1)
			for _, other := range []string{ahead, s + "\x00", s[:4], s + s} {
				if x, e := m.Look(m.Root(), other); x != (api.Entry{}) || e != api.ErrNone {
					t.Errorf("%s: Look of %q: %+v, error %d", what, other, x, e)
				}
			}
		}
	}
}

func TestListInOrder(t *testing.T) {
	for what, l := range trees() {
		m := mounts(t, what, built(t, what, l))
		for _, n := range told(t, what, m) {
			list, e := m.List(n.Ino)
			if n.Kind != api.Dir {
				if len(list) != 0 || e != api.ErrNotDir {
					t.Errorf("%s: %q: List %v, error %d", what, n.Names, list, e)
				}
				continue
			}
			names := map[string]int{}
			for _, other := range l {
				if len(other.Names) == len(n.Names)+1 && slices.Equal(other.Names[:len(n.Names)], n.Names) {
					names[other.Names[len(n.Names)]] = other.Kind
				}
			}
			rise := slices.IsSortedFunc(list, func(a, b api.Entry) int { return strings.Compare(a.Name, b.Name) })
			if len(list) != len(names) || !rise || e != api.OK {
				t.Errorf("%s: %q: List %v, error %d", what, n.Names, list, e)
			}
			for _, x := range list {
				if names[x.Name] != x.Kind || at(t, m, strings.Join(append(slices.Clone(n.Names), x.Name), "/")) != x.Ref {
					t.Errorf("%s: %q: %+v", what, n.Names, x)
				}
			}
		}
	}
}

func TestTarget(t *testing.T) {
	d := world()
	m := mounts(t, "a world", d.image())
	for node := range 7 {
		s, e := m.Target(d.ref(node))
		if node == worldL && (s != "d/f" || e != api.OK) || node != worldL && (s != "" || e != api.ErrArg) {
			t.Errorf("node %d: Target %q, error %d", node, s, e)
		}
	}
	targets := []string{"t", "/", "..", "a/b\xff\x01", strings.Repeat("t", 127), strings.Repeat("t", 128), string(mixed(5, 200))}
	var l []api.Node
	for i, s := range targets {
		l = append(l, link(fmt.Sprint("l", i), s))
	}
	m = mounts(t, "targets", built(t, "targets", rooted(l...)))
	for i, want := range targets {
		if s, e := m.Target(at(t, m, fmt.Sprint("l", i))); s != want || e != api.OK {
			t.Errorf("Target %q, error %d; wanted %q", s, e, want)
		}
	}
}

// TestXattrs: of each kind, with none, one and eight.
func TestXattrs(t *testing.T) {
	for _, many := range []int{0, 1, 2, 7, 8} {
		for _, size := range []int{0, 1, 127, 128, 200} {
			x := manyXattrs(many, size)
			l := rooted(attributed(dir("d"), x...), attributed(file("f", nil), x...), attributed(link("l", "t"), x...), attributed(file("d/f", []byte("a")), x...))
			l[0].Xattrs = x
			what := fmt.Sprintf("%d attributes of %d", many, size)
			m := mounts(t, what, built(t, what, l))
			for _, path := range []string{"", "d", "f", "l", "d/f"} {
				if got, e := m.Xattrs(at(t, m, path)); !slices.EqualFunc(got, x, sameXattr) || e != api.OK {
					t.Errorf("%s: %s: Xattrs %q, error %d; wanted %q", what, path, got, e, x)
				}
			}
		}
	}
	m := mounts(t, "attributes", built(t, "attributes", attributes()))
	for _, n := range attributes() {
		path := strings.Join(n.Names, "/")
		if got, e := m.Xattrs(at(t, m, path)); !slices.EqualFunc(got, n.Xattrs, sameXattr) || e != api.OK {
			t.Errorf("%s: Xattrs %q, error %d; wanted %q", path, got, e, n.Xattrs)
		}
	}
	m = mounts(t, "a world", world().image())
	for path, want := range map[string]string{"": "", "a": "", "d": "user.a", "d/f": "", "l": "a b", "z": "user.a", "t": "", "d/e": ""} {
		x, e := m.Xattrs(at(t, m, path))
		var names []string
		for _, a := range x {
			names = append(names, a.Name)
		}
		if strings.Join(names, " ") != want || e != api.OK {
			t.Errorf("%s: Xattrs %q, error %d; wanted %s", path, x, e, want)
		}
	}
}

// TestErrorsInOrder: where several hold, the first that the chapter names is told; and beside each error nothing.
func TestErrorsInOrder(t *testing.T) {
	d := world()
	m := mounts(t, "a world", d.image())
	ref := func(node int) int {
		if node < 0 {
			return 1 // inside the root's record
		}
		return d.ref(node)
	}
	for _, x := range []struct {
		node, off, n int
		want         api.Errno
	}{
		{-1, 0, 1, api.ErrArg}, {-1, -1, 1, api.ErrArg}, {-1, 0, -1, api.ErrArg},
		{worldD, 0, 1, api.ErrIsDir}, {worldD, -1, 1, api.ErrIsDir}, {worldD, 0, -1, api.ErrIsDir}, {worldD, -1, -1, api.ErrIsDir}, {worldD, 0, 0, api.ErrIsDir},
		{worldRoot, 0, 1, api.ErrIsDir}, {worldE, math.MinInt, math.MinInt, api.ErrIsDir}, {worldE, 9, 9, api.ErrIsDir},
		{worldL, 0, 1, api.ErrArg}, {worldL, -1, 1, api.ErrArg}, {worldL, 0, -1, api.ErrArg}, {worldL, 0, 0, api.ErrArg}, {worldL, 99, 0, api.ErrArg},
		{worldA, -1, 1, api.ErrArg}, {worldA, 0, -1, api.ErrArg}, {worldA, -1, -1, api.ErrArg}, {worldA, -1, 0, api.ErrArg}, {worldA, 300, -1, api.ErrArg},
		{worldA, math.MinInt, math.MaxInt, api.ErrArg}, {worldA, math.MaxInt, math.MinInt, api.ErrArg}, {worldT, -1, 6, api.ErrArg},
		{worldA, 0, 0, api.OK}, {worldA, 300, 0, api.OK}, {worldA, math.MaxInt, math.MaxInt, api.OK},
	} {
		if b, e := m.Read(ref(x.node), x.off, x.n); len(b) != 0 || e != x.want {
			t.Errorf("node %d: Read(%d, %d): %q, error %d; wanted %d", x.node, x.off, x.n, b, e, x.want)
		}
	}
	for node := -1; node < 7; node++ {
		look, list, target, stat := api.ErrNotDir, api.ErrNotDir, api.ErrArg, api.OK
		switch node {
		case -1:
			look, list, stat = api.ErrArg, api.ErrArg, api.ErrArg
		case worldRoot, worldD, worldE:
			look, list = api.ErrNone, api.OK
		case worldL:
			target = api.OK
		}
		_, a := m.Look(ref(node), "none")
		_, b := m.List(ref(node))
		_, c := m.Target(ref(node))
		_, e := m.Stat(ref(node))
		_, f := m.Xattrs(ref(node))
		if got, want := []api.Errno{a, b, c, e, f}, []api.Errno{look, list, target, stat, stat}; !slices.Equal(got, want) {
			t.Errorf("node %d: errors %v, wanted %v", node, got, want)
		}
	}
	// of bytes that can't be read, an argument that is wrong is told first
	d.blocks = bytes.Repeat([]byte{0, 0, 255}, len(d.blocks)/3+1)
	d.nodes[worldA].Start, d.nodes[worldZ].Start = 64, 64
	m = mounts(t, "holes", d.image())
	for off, want := range map[int]api.Errno{-1: api.ErrArg, 0: api.ErrIO} {
		if b, e := m.Read(d.ref(worldT), off, 5); len(b) != 0 || e != want {
			t.Errorf("Read(%d, 5): %q, error %d; wanted %d", off, b, e, want)
		}
	}
}
