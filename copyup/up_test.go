package copyup_test

import (
	"fmt"
	"slices"
	"strings"
	"testing"

	"lamella/api"
	"lamella/copyup"
	"lamella/image"
	"lamella/look"
	"lamella/mount"
	"lamella/upper"
)

// P21.1: Up.

// up asks for a path: the ref must be the one that the upper branch finds, and the upper branch what is wanted, in words.
func up(t *testing.T, s *look.Stack, path, want string) int {
	t.Helper()
	ref, e := copyup.Up(s, named(path))
	if at, none := image.Find(s.Up, named(path)); ref != at || e != api.OK || none != api.OK {
		t.Errorf("Up of %q: %d, error %d; found is %d, error %d\n%s", path, ref, e, at, none, shows(s))
	}
	if got := words(above(t, s)); got != want {
		t.Errorf("Up of %q: above is %q, wanted %q\n%s", path, got, want, shows(s))
	}
	return ref
}

// noUp is an error, behind which the upper branch is what it was.
func noUp(t *testing.T, s *look.Stack, path string, want api.Errno) {
	t.Helper()
	before, used := text(above(t, s)), s.Up.Used()
	ref, e := copyup.Up(s, named(path))
	if ref != 0 || e != want {
		t.Errorf("Up of %q: %d, error %d; wanted error %d\n%s", path, ref, e, want, shows(s))
	}
	if text(above(t, s)) != before || s.Up.Used() != used {
		t.Errorf("Up of %q, which is none, changes what is above\n%s", path, shows(s))
	}
}

func TestExample(t *testing.T) {
	low := opened(t, []api.Node{
		{Ino: 1, Kind: api.Dir},
		{Names: []string{"d"}, Ino: 2, Kind: api.Dir},
		{Names: []string{"d", "f"}, Ino: 3, Kind: api.File, Data: []byte("hi")},
	})
	s := look.New(upper.New(much), []*mount.Image{low})
	ref, e := copyup.Up(s, []string{"d", "f"})
	if b, wrong := s.Up.Read(ref, 0, 9); string(b) != "hi" || e != api.OK || wrong != api.OK {
		t.Errorf("%q, errors %d, %d", b, e, wrong)
	}
	if got, want := s.Up.Used(), (api.Quota{Nodes: 3, Bytes: 3*api.NodeCost + len("d"+"f"+"hi")}); got != want {
		t.Errorf("Used %+v, wanted %+v", got, want)
	}
}

// TestUpOfNoNames: the root is of the upper branch, also one that is Opaque.
func TestUpOfNoNames(t *testing.T) {
	for _, layers := range [][]string{{""}, {"", "a d/ d/x"}, {"!", "a"}, {"w- a", "w a", "b"}, {"", "! a"}} {
		s := stacked(t, layers...)
		for _, names := range [][]string{nil, {}} {
			before, used := text(above(t, s)), s.Up.Used()
			if ref, e := copyup.Up(s, names); ref != s.Up.Root() || e != api.OK {
				t.Errorf("%q: Up of no names: %d, error %d", layers, ref, e)
			}
			if text(above(t, s)) != before || s.Up.Used() != used {
				t.Errorf("%q: Up of no names changes what is above", layers)
			}
		}
	}
}

// TestUpOfWhatIsThere: its ref, and nothing more is taken, whatever is behind.
func TestUpOfWhatIsThere(t *testing.T) {
	have := "a d/ d/e! d/e/g d/x l@"
	paths := []string{"", "a", "d", "d/e", "d/e/g", "d/x", "l"}
	for _, low := range []string{"", have, "a/ a/b d/ d/e/ d/e/g/ d/e/h d/x@ d/y l/ l/m", "d/ d/e g"} {
		s := stacked(t, have, strings.ReplaceAll(low, "!", "/"))
		want := words(above(t, s))
		before, used := text(above(t, s)), s.Up.Used()
		for range 2 {
			for _, path := range paths {
				up(t, s, path, want)
			}
		}
		if text(above(t, s)) != before || s.Up.Used() != used {
			t.Errorf("above %q: Up changes what is above", low)
		}
	}
}

// TestUpOfAnotherName: a file of the upper branch has one ref under each of its names.
func TestUpOfAnotherName(t *testing.T) {
	s := stacked(t, "a=1 d/ d/b=1", "c")
	first := up(t, s, "a", "/0 a0 d/0 d/b0")
	second := up(t, s, "d/b", "/0 a0 d/0 d/b0")
	if first != second {
		t.Errorf("two names of one file lead to %d and %d", first, second)
	}
	up(t, s, "c", "/0 a0 c1 d/0 d/b0")
}

// whole is nodes that have as much as they may have.
func whole() []api.Node {
	var xattrs []api.Xattr
	for i := range api.MaxXattrs {
		xattrs = append(xattrs, api.Xattr{Name: strings.Repeat(string(rune('a'+i)), api.MaxXName), Value: []byte(strings.Repeat("v", api.MaxXValue-i))})
	}
	most := api.Attr{Mode: api.MaxMode, Uid: api.MaxID, Gid: api.MaxID - 1}
	long := strings.Repeat("n", api.MaxName-1)
	return []api.Node{
		{Ino: 1, Kind: api.Dir},
		{Names: []string{"d" + long}, Ino: 2, Kind: api.Dir, Attr: most, Xattrs: xattrs},
		{Names: []string{"f" + long}, Ino: 3, Kind: api.File, Attr: most, Xattrs: xattrs, Data: mixed(api.MaxFile)},
		{Names: []string{"l" + long}, Ino: 4, Kind: api.Link, Attr: most, Xattrs: xattrs, Target: strings.Repeat("t", api.MaxTarget)},
	}
}

// few is nodes that have little, or nothing.
func few() []api.Node {
	x := []api.Xattr{{Name: "a"}}
	return []api.Node{
		{Ino: 1, Kind: api.Dir, Attr: api.Attr{Mode: 9}, Xattrs: x},
		{Names: []string{"d"}, Ino: 2, Kind: api.Dir},
		{Names: []string{"e"}, Ino: 3, Kind: api.Dir, Attr: api.Attr{Mode: 448, Uid: 5, Gid: 7}, Xattrs: x},
		{Names: []string{"f"}, Ino: 4, Kind: api.File},
		{Names: []string{"g"}, Ino: 5, Kind: api.File, Attr: api.Attr{Uid: 1}, Xattrs: x, Data: []byte{0}},
		{Names: []string{"l"}, Ino: 6, Kind: api.Link, Target: "\xff"},
		{Names: []string{"m"}, Ino: 7, Kind: api.Link, Attr: api.Attr{Gid: 1}, Xattrs: x, Target: "/a/../b"},
	}
}

// TestUpOfEachKind: of each kind all that it has is laid down, and nothing else.
func TestUpOfEachKind(t *testing.T) {
	for _, l := range [][]api.Node{few(), whole()} {
		for _, n := range l[1:] {
			s := look.New(upper.New(much), []*mount.Image{opened(t, l)})
			ref, e := copyup.Up(s, n.Names)
			n.Ino = 2
			got := above(t, s)
			if ref != 2 || e != api.OK || len(got) != 2 || !sameNodes(got[1:], []api.Node{n}) {
				t.Errorf("Up of %.9q: %d, error %d\n%s", n.Names, ref, e, text(got))
			}
			if got, want := s.Up.Used(), (api.Quota{Nodes: 2, Bytes: cost(got)}); got != want {
				t.Errorf("Up of %.9q: Used %+v, wanted %+v", n.Names, got, want)
			}
			stat, _ := s.Up.Stat(ref)
			if stat.Links != 1 || s.Up.Opaque(ref) {
				t.Errorf("Up of %.9q: %+v, Opaque %t", n.Names, stat, s.Up.Opaque(ref))
			}
		}
	}
}

// TestUpLeavesTheRoot: it has what it had, whatever the images' roots have.
func TestUpLeavesTheRoot(t *testing.T) {
	s := look.New(upper.New(much), []*mount.Image{opened(t, few())})
	before := above(t, s)[:1]
	for _, path := range []string{"d", "f", "", "l"} {
		if _, e := copyup.Up(s, named(path)); e != api.OK || !sameNodes(above(t, s)[:1], before) {
			t.Errorf("Up of %q: error %d, and the root is\n%s", path, e, text(above(t, s)[:1]))
		}
	}
}

// TestUpOfBytes: files of all sizes about blocks, of bytes of any kind, and of noughts, as they come along an image.
func TestUpOfBytes(t *testing.T) {
	sizes := []int{0, 1, 2, 100, 127, 128, 129, 255, 256, 257, 1000, 2047, 2048, 2049, 4095, 4096}
	for _, fill := range []func(n int) []byte{mixed, func(n int) []byte { return make([]byte, n) }, func(n int) []byte {
		return append(make([]byte, n/2), mixed(n-n/2)...)
	}} {
		l := []api.Node{{Ino: 1, Kind: api.Dir}}
		for i, n := range sizes {
			l = append(l, api.Node{Names: []string{fmt.Sprint(n)}, Ino: i + 2, Kind: api.File, Data: fill(n)})
		}
		s := look.New(upper.New(much), []*mount.Image{opened(t, l)})
		for _, n := range l[1:] {
			ref, e := copyup.Up(s, n.Names)
			b, wrong := s.Up.Read(ref, 0, 5000)
			if !slices.Equal(b, n.Data) || e != api.OK || wrong != api.OK {
				t.Errorf("Up of %q: %d bytes, errors %d, %d", n.Names, len(b), e, wrong)
			}
			if stat, _ := s.Up.Stat(ref); stat.Size != len(n.Data) {
				t.Errorf("Up of %q: %+v", n.Names, stat)
			}
		}
	}
}

// TestUpOfADirectory: what is within is not laid down, but told.
func TestUpOfADirectory(t *testing.T) {
	s := stacked(t, "", "d/ d/e/ d/e/g d/x d/y@")
	ref := up(t, s, "d", "/0 d/1")
	if l, e := s.Up.List(ref); len(l) != 0 || e != api.OK || s.Up.Opaque(ref) {
		t.Errorf("above is %v, error %d, Opaque %t", l, e, s.Up.Opaque(ref))
	}
	listIs(t, s, "d", "e/ x y@")
	listIs(t, s, "d/e", "g")
	readIs(t, s, "d/e/g", "d/e/g of 1")
	up(t, s, "d/e", "/0 d/1 d/e/1")
	listIs(t, s, "d", "e/ x y@")
	listIs(t, s, "d/e", "g")
}

// TestUpBelow: where none, some and all of the directories ahead are of the upper branch. The refs rise from the root on.
func TestUpBelow(t *testing.T) {
	low := "a/ a/b/ a/b/c/ a/b/c/f a/b/z a/y x"
	for _, x := range []struct{ up, want string }{
		{"", "/0 a/1 a/b/1 a/b/c/1 a/b/c/f1"},
		{"a/", "/0 a/0 a/b/1 a/b/c/1 a/b/c/f1"},
		{"a/ a/b/", "/0 a/0 a/b/0 a/b/c/1 a/b/c/f1"},
		{"a/ a/b/ a/b/c/", "/0 a/0 a/b/0 a/b/c/0 a/b/c/f1"},
		{"a/ a/b/ a/b/c/ a/b/c/f", "/0 a/0 a/b/0 a/b/c/0 a/b/c/f0"},
		{"a/ a/b/ a/b/z- a/y- o", "/0 a/0 a/b/0 a/b/c/1 a/b/c/f1 a/b/z- a/y- o0"},
	} {
		s := stacked(t, x.up, low)
		nodes := s.Up.Used().Nodes
		ref := up(t, s, "a/b/c/f", x.want)
		if s.Up.Used().Nodes > nodes && ref != s.Up.Used().Nodes {
			t.Errorf("above %q: the ref is %d, with %d nodes", x.up, ref, s.Up.Used().Nodes)
		}
		used := s.Up.Used()
		if again := up(t, s, "a/b/c/f", x.want); again != ref || s.Up.Used() != used {
			t.Errorf("above %q: the ref is %d, and was %d", x.up, again, ref)
		}
		for _, path := range []string{"a", "a/b", "a/b/c"} {
			up(t, s, path, x.want)
		}
	}
	s := stacked(t, "", low)
	for i, path := range []string{"a", "a/b", "a/b/c", "a/b/c/f"} {
		if ref, e := copyup.Up(s, named(path)); ref != i+2 || e != api.OK {
			t.Errorf("Up of %q: %d, error %d", path, ref, e)
		}
	}
}

// TestUpOfWhatIsDeep: as deep as an image may be.
func TestUpOfWhatIsDeep(t *testing.T) {
	l := []api.Node{{Ino: 1, Kind: api.Dir}}
	for i := range api.MaxDepth {
		n := api.Node{Names: slices.Concat(l[i].Names, []string{string(rune('a' + i))}), Ino: i + 2, Kind: api.Dir, Attr: api.Attr{Mode: i}}
		if i == api.MaxDepth-1 {
			n.Kind, n.Data = api.File, []byte("deep")
		}
		l = append(l, n)
	}
	s := look.New(upper.New(much), []*mount.Image{opened(t, l)})
	ref, e := copyup.Up(s, l[api.MaxDepth].Names)
	got := above(t, s)
	got[0] = l[0]
	if ref != api.MaxDepth+1 || e != api.OK || !sameNodes(got, l) {
		t.Errorf("%d, error %d\n%s", ref, e, text(got))
	}
}

// TestUpOfSeveralImages: the first that has it tells what is laid down.
func TestUpOfSeveralImages(t *testing.T) {
	s := stacked(t, "", "d/ d/a", "d/ d/b d/e/ e/", "d/ d/b d/c d/e/ d/e/f e/ e/g")
	up(t, s, "d", "/0 d/1")
	listIs(t, s, "d", "a b c e/")
	up(t, s, "d/c", "/0 d/1 d/c3")
	readIs(t, s, "d/c", "d/c of 3")
	up(t, s, "d/b", "/0 d/1 d/b2 d/c3")
	readIs(t, s, "d/b", "d/b of 2")
	up(t, s, "d/e/f", "/0 d/1 d/b2 d/c3 d/e/2 d/e/f3")
	listIs(t, s, "d", "a b c e/")
	listIs(t, s, "d/e", "f")
	up(t, s, "e", "/0 d/1 d/b2 d/c3 d/e/2 d/e/f3 e/2")
	listIs(t, s, "e", "g")
}

// TestUpOfWhatIsNotOneDirectory: a file between two layers' directories, or a directory in between that is Opaque, hides what is behind as it did.
func TestUpOfWhatIsNotOneDirectory(t *testing.T) {
	s := stacked(t, "", "d/ d/a", "d", "d/ d/b")
	up(t, s, "d", "/0 d/1")
	listIs(t, s, "d", "a")
	noUp(t, s, "d/b", api.ErrNone)

	s = stacked(t, "", "d! d/a", "d/ d/b")
	up(t, s, "d", "/0 d/1") // not Opaque, though it was
	listIs(t, s, "d", "a")
	up(t, s, "d/a", "/0 d/1 d/a1")
	noUp(t, s, "d/b", api.ErrNone)

	s = stacked(t, "", "d", "d/ d/b")
	up(t, s, "d", "/0 d1")
	noUp(t, s, "d/b", api.ErrNotDir)

	s = stacked(t, "d/", "d/ d/b- d/e!", "d/ d/b d/e/ d/e/f")
	noUp(t, s, "d/b", api.ErrNone)
	noUp(t, s, "d/e/f", api.ErrNone)
	up(t, s, "d/e", "/0 d/0 d/e/1")
	noUp(t, s, "d/e/f", api.ErrNone)
}

// TestUpOfTwoNames: what is laid down has one name; the other ones stay what they were.
func TestUpOfTwoNames(t *testing.T) {
	s := stacked(t, "", "a=1 b=1 d/ d/c=1 l@=2 m@=2")
	statIs(t, s, "a", api.File, 3)
	first := up(t, s, "d/c", "/0 d/1 d/c1")
	statIs(t, s, "d/c", api.File, 1)
	statIs(t, s, "a", api.File, 3)
	statIs(t, s, "b", api.File, 3)
	second := up(t, s, "a", "/0 a1 d/1 d/c1")
	if first == second {
		t.Errorf("both are %d", first)
	}
	statIs(t, s, "a", api.File, 1)
	statIs(t, s, "b", api.File, 3)
	if e := s.Up.Write(first, 0, []byte("XX")); e != api.OK {
		t.Errorf("Write: error %d", e)
	}
	readIs(t, s, "d/c", "XX of 1")
	readIs(t, s, "a", "=1 of 1")
	readIs(t, s, "b", "=1 of 1")
	up(t, s, "m", "/0 a1 d/1 d/c1 m@1")
	statIs(t, s, "m", api.Link, 1)
	statIs(t, s, "l", api.Link, 2)
}

// TestUpOfWhatIsHidden: a mark, a file or an Opaque directory of the upper branch hides what an image has.
func TestUpOfWhatIsHidden(t *testing.T) {
	low := "a d/ d/e/ d/e/f d/x e/ e/x"
	s := stacked(t, "a- d/ d/e- d/x-", low)
	noUp(t, s, "a", api.ErrNone)
	noUp(t, s, "d/e", api.ErrNone)
	noUp(t, s, "d/e/f", api.ErrNone)
	noUp(t, s, "d/x", api.ErrNone)
	up(t, s, "e/x", "/0 a- d/0 d/e- d/x- e/1 e/x1")
	s = stacked(t, "d e@", low)
	for _, path := range []string{"d/e", "d/e/f", "d/x", "e/x", "e/none"} {
		noUp(t, s, path, api.ErrNotDir)
	}
	s = stacked(t, "d! d/y e/", low)
	noUp(t, s, "d/e", api.ErrNone)
	noUp(t, s, "d/e/f", api.ErrNone)
	up(t, s, "d/y", "/0 d!0 d/y0 e/0")
	up(t, s, "e/x", "/0 d!0 d/y0 e/0 e/x1")
	s = stacked(t, "! b", low)
	for _, path := range []string{"a", "d", "d/x", "e/x"} {
		noUp(t, s, path, api.ErrNone)
	}
}

// TestUpOfNone: names that are not there, and such that go on below what is no directory.
func TestUpOfNone(t *testing.T) {
	for _, layers := range [][]string{{"", "f l@ d/ d/g"}, {"f l@ d/ d/g", ""}, {"d/", "l@ d/ d/g", "f d/"}} {
		s := stacked(t, layers...)
		for path, want := range map[string]api.Errno{
			"x": api.ErrNone, "x/y": api.ErrNone, "x/y/z": api.ErrNone, "d/x": api.ErrNone, "d/x/y": api.ErrNone,
			"f/x": api.ErrNotDir, "f/x/y": api.ErrNotDir, "l/x": api.ErrNotDir, "d/g/x": api.ErrNotDir, "d/g/x/y/z": api.ErrNotDir,
		} {
			noUp(t, s, path, want)
		}
	}
}

// TestUpWithoutRoom: nothing is refused for a quota.
func TestUpWithoutRoom(t *testing.T) {
	s := look.New(upper.New(api.Quota{}), []*mount.Image{opened(t, lay(1, "d/ d/f"))})
	up(t, s, "d/f", "/493 d/1 d/f1")
	if !s.Up.Over() {
		t.Error("the quota is held")
	}
}
