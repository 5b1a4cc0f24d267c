package copyup_test

import (
	"testing"

	"lamella/api"
	"lamella/copyup"
	"lamella/look"
	"lamella/mount"
	"lamella/upper"
)

// P21.2: Mark and Clear.

// mark asks for a path: the upper branch must be what is wanted then, in words, and nothing is told of the path any more.
func mark(t *testing.T, s *look.Stack, path, want string) {
	t.Helper()
	if e := copyup.Mark(s, named(path)); e != api.OK {
		t.Errorf("Mark of %q: error %d\n%s", path, e, shows(s))
	}
	if got := words(above(t, s)); got != want {
		t.Errorf("Mark of %q: above is %q, wanted %q\n%s", path, got, want, shows(s))
	}
	noStat(t, s, api.ErrNone, path, path+"/x")
}

// noMark is an error, behind which the upper branch is what it was.
func noMark(t *testing.T, s *look.Stack, path string, want api.Errno) {
	t.Helper()
	before, used := text(above(t, s)), s.Up.Used()
	if e := copyup.Mark(s, named(path)); e != want {
		t.Errorf("Mark of %q: error %d, wanted %d\n%s", path, e, want, shows(s))
	}
	if text(above(t, s)) != before || s.Up.Used() != used {
		t.Errorf("Mark of %q, which is none, changes what is above\n%s", path, shows(s))
	}
}

// cleared asks for a path of a mark.
func cleared(t *testing.T, s *look.Stack, path, want string) {
	t.Helper()
	if was, e := copyup.Clear(s, named(path)); !was || e != api.OK {
		t.Errorf("Clear of %q: %t, error %d\n%s", path, was, e, shows(s))
	}
	if got := words(above(t, s)); got != want {
		t.Errorf("Clear of %q: above is %q, wanted %q\n%s", path, got, want, shows(s))
	}
}

// noClear asks for paths of which none is a mark of the upper branch.
func noClear(t *testing.T, s *look.Stack, paths ...string) {
	t.Helper()
	before, used := text(above(t, s)), s.Up.Used()
	for _, path := range paths {
		if was, e := copyup.Clear(s, named(path)); was || e != api.OK {
			t.Errorf("Clear of %q: %t, error %d\n%s", path, was, e, shows(s))
		}
		if text(above(t, s)) != before || s.Up.Used() != used {
			t.Errorf("Clear of %q, which is none, changes what is above\n%s", path, shows(s))
		}
	}
}

// TestMark: of a file, a link and a directory with something in it, in the root and below.
func TestMark(t *testing.T) {
	low := "a l@ d/ d/x d/m@ d/e/ d/e/f g"
	s := stacked(t, "", low)
	mark(t, s, "a", "/0 a-")
	listIs(t, s, "", "d/ g l@")
	mark(t, s, "l", "/0 a- l-")
	listIs(t, s, "", "d/ g")
	mark(t, s, "d", "/0 a- d- l-")
	listIs(t, s, "", "g")
	noStat(t, s, api.ErrNone, "d/x", "d/m", "d/e", "d/e/f", "d/none")

	s = stacked(t, "", low)
	mark(t, s, "d/x", "/0 d/1 d/x-")
	listIs(t, s, "d", "e/ m@")
	mark(t, s, "d/m", "/0 d/1 d/m- d/x-")
	listIs(t, s, "d", "e/")
	mark(t, s, "d/e/f", "/0 d/1 d/e/1 d/e/f- d/m- d/x-")
	listIs(t, s, "d/e", "")
	listIs(t, s, "", "a d/ g l@")
	readIs(t, s, "a", "a of 1")

	s = stacked(t, "", low)
	mark(t, s, "d/e", "/0 d/1 d/e-")
	noStat(t, s, api.ErrNone, "d/e/f")
	listIs(t, s, "d", "m@ x")
}

// TestMarkLaysDownWhatIsAhead: with all that it has, and not Opaque.
func TestMarkLaysDownWhatIsAhead(t *testing.T) {
	l := whole()[:2]
	l[1].Names = []string{"d"}
	l = append(l,
		api.Node{Names: []string{"d", "e"}, Ino: 3, Kind: api.Dir, Attr: api.Attr{Mode: 1, Uid: 2, Gid: 3}, Xattrs: []api.Xattr{{Name: "x", Value: []byte("y")}}},
		api.Node{Names: []string{"d", "e", "f"}, Ino: 4, Kind: api.File, Data: mixed(300)},
	)
	s := look.New(upper.New(much), []*mount.Image{opened(t, l)})
	if e := copyup.Mark(s, l[3].Names); e != api.OK {
		t.Errorf("error %d", e)
	}
	l[3] = api.Node{Names: l[3].Names, Ino: 4, Kind: api.White}
	l[0] = above(t, s)[0]
	if got := above(t, s); !sameNodes(got, l) || s.Up.Used() != (api.Quota{Nodes: 4, Bytes: cost(l)}) {
		t.Errorf("%+v\n%s", s.Up.Used(), text(got))
	}
}

// TestMarkOfSeveralLayers: whatever is behind is hidden, in each of them.
func TestMarkOfSeveralLayers(t *testing.T) {
	s := stacked(t, "d/", "d/ d/x e/ e/y", "d/ d/x d/z e/", "d/ d/x/ d/x/y e/ e/x e/y")
	mark(t, s, "d/x", "/0 d/0 d/x-")
	listIs(t, s, "d", "z")
	mark(t, s, "d/z", "/0 d/0 d/x- d/z-")
	mark(t, s, "e/y", "/0 d/0 d/x- d/z- e/1 e/y-")
	listIs(t, s, "e", "x")
	mark(t, s, "e/x", "/0 d/0 d/x- d/z- e/1 e/x- e/y-")
	listIs(t, s, "e", "")
}

// TestMarkOfWhatIsNotThere: a mark is made in any directory that is told, also of a name that no layer has.
func TestMarkOfWhatIsNotThere(t *testing.T) {
	s := stacked(t, "u/ o!", "d/ d/e/ o/ o/x", "d/ w-")
	mark(t, s, "none", "/0 none- o!0 u/0")
	mark(t, s, "d/none", "/0 d/1 d/none- none- o!0 u/0")
	mark(t, s, "d/e/none", "/0 d/1 d/e/1 d/e/none- d/none- none- o!0 u/0")
	mark(t, s, "u/none", "/0 d/1 d/e/1 d/e/none- d/none- none- o!0 u/0 u/none-")
	mark(t, s, "o/x", "/0 d/1 d/e/1 d/e/none- d/none- none- o!0 o/x- u/0 u/none-")
	mark(t, s, "w", "/0 d/1 d/e/1 d/e/none- d/none- none- o!0 o/x- u/0 u/none- w-")
}

// TestMarkOfNone: below what is not there, and below what is no directory, in the upper branch and in an image; nothing is laid down then.
func TestMarkOfNone(t *testing.T) {
	for _, layers := range [][]string{{"", "f l@ d/ d/g w/"}, {"w-", "f l@ d/ d/g w/"}, {"f l@ d/ d/g", "f/ f/x d/ d/g/ d/g/x"}, {"d/", "l@ d/ d/g=1 h=1", "f d/"}} {
		s := stacked(t, layers...)
		for path, want := range map[string]api.Errno{
			"x/y": api.ErrNone, "x/y/z": api.ErrNone, "d/x/y": api.ErrNone, "d/x/y/z": api.ErrNone,
			"f/x": api.ErrNotDir, "f/x/y": api.ErrNotDir, "l/x": api.ErrNotDir, "d/g/x": api.ErrNotDir, "d/g/x/y/z": api.ErrNotDir,
		} {
			noMark(t, s, path, want)
		}
	}
	s := stacked(t, "w- d/ d/w-", "w/ w/x d/ d/w/ d/w/x d/y")
	noMark(t, s, "w/x", api.ErrNone)
	noMark(t, s, "d/w/x", api.ErrNone)
	noMark(t, s, "d/w/x/z", api.ErrNone)
}

// TestMarkOfWhatIsThere: what the upper branch has in the way it tells, a mark too, and nothing changes.
func TestMarkOfWhatIsThere(t *testing.T) {
	s := stacked(t, "a w- d/ d/x d/w- l@", "a w d/ d/x d/w d/y")
	for _, path := range []string{"", "a", "w", "d", "d/x", "d/w", "l"} {
		noMark(t, s, path, api.ErrExists)
	}
}

// TestClear: of a mark that was made, and of such as an upper branch was filled with. What is behind is told again.
func TestClear(t *testing.T) {
	s := stacked(t, "w- d/ d/w- d/v- e! e/w- none-", "w/ w/x d/ d/w e/ e/w")
	noStat(t, s, api.ErrNone, "w", "w/x", "d/w", "d/v", "e/w", "none")
	cleared(t, s, "w", "/0 d/0 d/v- d/w- e!0 e/w- none-")
	listIs(t, s, "w", "x")
	cleared(t, s, "d/w", "/0 d/0 d/v- e!0 e/w- none-")
	readIs(t, s, "d/w", "d/w of 1")
	cleared(t, s, "d/v", "/0 d/0 e!0 e/w- none-")
	noStat(t, s, api.ErrNone, "d/v")
	cleared(t, s, "e/w", "/0 d/0 e!0 none-")
	noStat(t, s, api.ErrNone, "e/w") // the directory is Opaque
	cleared(t, s, "none", "/0 d/0 e!0")
	noClear(t, s, "w", "d/w", "d/v", "e/w", "none", "")
	if got, want := s.Up.Used(), (api.Quota{Nodes: 3, Bytes: 3*api.NodeCost + 2}); got != want {
		t.Errorf("Used %+v, wanted %+v", got, want)
	}
}

// TestClearOfNoMark: of what is something else, or is not there; or where a name ahead is not of the upper branch, or leads to no directory there.
func TestClearOfNoMark(t *testing.T) {
	s := stacked(t, "f l@ d/ d/x w- d/w- e!", "g h/ h/g w/ w/x/ d/ d/w/ d/w/x d/y e/ e/x")
	noClear(t, s, "", "f", "l", "d", "d/x", "e", "none", "d/none", "none/none", "g", "h", "h/g", "h/none", "d/y", "e/x",
		"f/x", "l/x", "d/x/y", "w/x", "w/none", "w/x/y", "d/w/x", "d/w/none", "g/x")
	noClear(t, stacked(t, "d/", "d/", "w- d/ d/w-", "w d/ d/w"), "w", "d/w") // marks of other layers stay
	noClear(t, stacked(t, "", "", "d/ d/w-"), "d/w", "d")
	for _, names := range [][]string{nil, {}} {
		if was, e := copyup.Clear(s, names); was || e != api.OK {
			t.Errorf("Clear of no names: %t, error %d", was, e)
		}
	}
}

// TestClearOfTwoNames: a mark that has two names in the upper branch loses the one that is asked for.
func TestClearOfTwoNames(t *testing.T) {
	s := stacked(t, "w- d/", "w d/ d/v")
	w, _ := s.Up.Look(1, "w")
	d, _ := s.Up.Look(1, "d")
	if e := s.Up.Link(d.Ref, "v", w.Ref); e != api.OK {
		t.Fatalf("Link: error %d", e)
	}
	noStat(t, s, api.ErrNone, "w", "d/v")
	cleared(t, s, "w", "/0 d/0 d/v-")
	readIs(t, s, "w", "w of 1")
	noStat(t, s, api.ErrNone, "d/v")
	cleared(t, s, "d/v", "/0 d/0")
	readIs(t, s, "d/v", "d/v of 1")
}

// TestOneBehindTheOther: Mark, Clear and Up, twice each.
func TestOneBehindTheOther(t *testing.T) {
	s := stacked(t, "", "d/ d/f d/g")
	mark(t, s, "d/f", "/0 d/1 d/f-")
	noMark(t, s, "d/f", api.ErrExists)
	noUp(t, s, "d/f", api.ErrNone)
	cleared(t, s, "d/f", "/0 d/1")
	noClear(t, s, "d/f")
	readIs(t, s, "d/f", "d/f of 1")
	ref := up(t, s, "d/f", "/0 d/1 d/f1")
	if again := up(t, s, "d/f", "/0 d/1 d/f1"); again != ref {
		t.Errorf("%d, and again %d", ref, again)
	}
	noMark(t, s, "d/f", api.ErrExists)
	noClear(t, s, "d/f")

	d, _ := s.Up.Look(1, "d")
	if e := s.Up.Remove(d.Ref, "f"); e != api.OK {
		t.Fatalf("Remove: error %d", e)
	}
	mark(t, s, "d/f", "/0 d/1 d/f-")
	if again := up(t, s, "d/g", "/0 d/1 d/f- d/g1"); again <= ref {
		t.Errorf("%d comes again", again)
	}
	noMark(t, s, "d", api.ErrExists)
	cleared(t, s, "d/f", "/0 d/1 d/g1")
	if again := up(t, s, "d/f", "/0 d/1 d/f1 d/g1"); again <= ref {
		t.Errorf("%d comes again", again)
	}
	noClear(t, s, "d/f", "d", "d/g")
}
