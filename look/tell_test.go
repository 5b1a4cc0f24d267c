package look_test

import (
	"fmt"
	"slices"
	"strings"
	"testing"

	"lamella/api"
	"lamella/look"
	"lamella/upper"
)

// P20.2: Stat and List.

// listIs is a list in words: each name with the sign of its kind.
func listIs(t *testing.T, s *look.Stack, path, want string) {
	t.Helper()
	l, e := s.List(named(path))
	var words []string
	for _, x := range l {
		words = append(words, x.Name+sign(x.Kind))
		if x.Ref != 0 {
			t.Errorf("List of %q: the Ref of %q is %d", path, x.Name, x.Ref)
		}
	}
	if got := strings.Join(words, " "); got != want || e != api.OK {
		t.Errorf("List of %q: %s, error %d; wanted %s\n%s", path, got, e, want, shows(s))
	}
}

// noList is an error of List, and nothing beside it.
func noList(t *testing.T, s *look.Stack, path string, want api.Errno) {
	t.Helper()
	if l, e := s.List(named(path)); len(l) != 0 || e != want {
		t.Errorf("List of %q: %v, error %d; wanted error %d\n%s", path, l, e, want, shows(s))
	}
}

func statIs(t *testing.T, s *look.Stack, path string, want api.Stat) {
	t.Helper()
	if got, e := s.Stat(named(path)); got != want || e != api.OK {
		t.Errorf("Stat of %q: %v, error %d; wanted %v\n%s", path, got, e, want, shows(s))
	}
}

func noStat(t *testing.T, s *look.Stack, path string, want api.Errno) {
	t.Helper()
	if got, e := s.Stat(named(path)); got != (api.Stat{}) || e != want {
		t.Errorf("Stat of %q: %v, error %d; wanted error %d\n%s", path, got, e, want, shows(s))
	}
}

// sizeIs is of a directory, with the mode of its first layer.
func sizeIs(t *testing.T, s *look.Stack, path string, mode, size int) {
	t.Helper()
	statIs(t, s, path, api.Stat{Kind: api.Dir, Attr: api.Attr{Mode: mode}, Links: 1, Size: size})
}

func TestListOfOneLayer(t *testing.T) {
	s := stacked(t, "b a@ d/ d/y d/x/ d/w- e/ e/w- o! o/f w-", "")
	listIs(t, s, "", "a@ b d/ e/ o/")
	listIs(t, s, "d", "x/ y")
	listIs(t, s, "e", "") // nothing but a mark
	listIs(t, s, "o", "f")
	listIs(t, s, "d/x", "")
	s = stacked(t, "", "b a@ d/ d/y d/x/")
	listIs(t, s, "", "a@ b d/")
	listIs(t, s, "d", "x/ y")
	listIs(t, s, "d/x", "")
	s = stacked(t, "", "", "d/ d/e/ d/e/f", "")
	listIs(t, s, "d/e", "f")
}

func TestListOfSeveralLayers(t *testing.T) {
	s := stacked(t, "d/ d/c d/b- a", "d/ d/b d/a@ d/g/ b", "c d/ d/b d/c d/d d/g- a/")
	listIs(t, s, "", "a b c d/")
	listIs(t, s, "d", "a@ c d g/")
	s = stacked(t, "d/", "d! d/x", "d/ d/y")
	listIs(t, s, "d", "x")
	s = stacked(t, "d/ d/x-", "d/ d/y", "d- x", "d/ d/z")
	listIs(t, s, "d", "y")
	listIs(t, s, "", "d/ x")
	s = stacked(t, "a-", "! b", "a c")
	listIs(t, s, "", "b")
	s = stacked(t, "a- b- d-", "a b d/ d/e")
	listIs(t, s, "", "")
	s = stacked(t, "a", "b", "c", "d", "e", "f", "g", "h", "i")
	listIs(t, s, "", "a b c d e f g h i")
	s = stacked(t, "", "a-", "a- b", "a b- c", "a b c- d")
	listIs(t, s, "", "b c d")
}

// TestKindsOfAList are those of what is on top.
func TestKindsOfAList(t *testing.T) {
	s := stacked(t, "a b/ c@ d", "a/ a/x b c d@", "a@ b@ c/ d/ e")
	listIs(t, s, "", "a b/ c@ d e")
	s = stacked(t, "", "a/ a/x b c d@", "a@ b@ c/ d/ e", "e/")
	listIs(t, s, "", "a/ b c d@ e")
	s = stacked(t, "d/ d/x", "d/ d/x/ d/x/y d/z/", "d/ d/z")
	listIs(t, s, "d", "x z/")
}

// TestListRises: by bytes, whatever layer a name is of.
func TestListRises(t *testing.T) {
	s := stacked(t, "b \xff ab a0", "a B aa a.b \xc3\xa9 10", "9 a-b 1 \xfe \x01")
	listIs(t, s, "", "\x01 1 10 9 B a a-b a.b a0 aa ab b \xc3\xa9 \xfe \xff")
}

// TestListOfWhatIsNoDirectory is ErrNotDir, of what is not there the error of Spots.
func TestListOfWhatIsNoDirectory(t *testing.T) {
	s := stacked(t, "f l@ w-", "f/ f/x g m@ l/ w/", "g/ g/x n h/", "n/ n/x")
	for _, path := range []string{"f", "l", "g", "m", "n", "f/x", "g/x", "n/x", "l/x", "m/x/y"} {
		noList(t, s, path, api.ErrNotDir)
	}
	for _, path := range []string{"w", "x", "w/x", "x/y/z", "h/x", "h/x/y"} {
		noList(t, s, path, api.ErrNone)
		noStat(t, s, path, api.ErrNone)
	}
	noStat(t, s, "f/x", api.ErrNotDir)
	noStat(t, s, "m/x/y", api.ErrNotDir)
}

// TestSizeOfADirectory is how many names are within the merge.
func TestSizeOfADirectory(t *testing.T) {
	sizeIs(t, stacked(t, "a b w-"), "", 0, 2)
	sizeIs(t, stacked(t, "a b w-", "a c w"), "", 0, 3)
	sizeIs(t, stacked(t, "! a b w-", "a c w"), "", 0, 2)
	s := stacked(t, "d/ d/a- d/b e/ e/w- o! o/x g", "d/ d/a d/b d/c d/e/ f/ f/x f/y o/ o/y g/ g/x", "d/ d/a d/d d/e- f/ f/x f/z o/ o/z h/ h/h/ h/h/x")
	sizeIs(t, s, "", 0, 6)
	sizeIs(t, s, "d", 0, 4)
	sizeIs(t, s, "e", 0, 0)
	sizeIs(t, s, "o", 0, 1)
	sizeIs(t, s, "d/e", 1, 0)
	sizeIs(t, s, "f", 1, 3)
	sizeIs(t, s, "h", 2, 1)
	sizeIs(t, s, "h/h", 2, 1)
	s = stacked(t, "", "w- a", "w a b c-", "c d/ d/x")
	sizeIs(t, s, "", 0, 3)
	sizeIs(t, s, "d", 3, 1)
}

// TestStatIsOfTheFirstSpot: all but a directory's Size; its Links, too, some names of which may be hidden.
func TestStatIsOfTheFirstSpot(t *testing.T) {
	trees := [][]api.Node{lay(1, "f d/ g- k d/k-"), lay(2, "f=1 g=1 h=1 d/ d/h=1 l@=2 d/l@=2 k=3 d/k=3"), lay(3, "f d/ l d/x")}
	for i, tree := range trees {
		for k, n := range tree {
			if n.Kind == api.Dir {
				tree[k].Attr = api.Attr{Mode: i + 1, Uid: 65535 - i, Gid: 10 * i}
			}
		}
	}
	s := stackOf(t, trees...)
	statIs(t, s, "", api.Stat{Kind: api.Dir, Attr: api.Attr{Mode: 1, Uid: 65535}, Links: 1, Size: 5})
	statIs(t, s, "d", api.Stat{Kind: api.Dir, Attr: api.Attr{Mode: 1, Uid: 65535}, Links: 1, Size: 3})
	statIs(t, s, "f", api.Stat{Kind: api.File, Attr: api.Attr{Mode: 1}, Links: 1, Size: len("f of 1")})
	statIs(t, s, "h", api.Stat{Kind: api.File, Attr: api.Attr{Mode: 2}, Links: 4, Size: len("=1 of 2")})
	statIs(t, s, "d/h", api.Stat{Kind: api.File, Attr: api.Attr{Mode: 2}, Links: 4, Size: len("=1 of 2")})
	statIs(t, s, "l", api.Stat{Kind: api.Link, Attr: api.Attr{Mode: 2}, Links: 2, Size: len("=2 of 2")})
	statIs(t, s, "k", api.Stat{Kind: api.File, Attr: api.Attr{Mode: 1}, Links: 1, Size: len("k of 1")})
	statIs(t, s, "d/x", api.Stat{Kind: api.File, Attr: api.Attr{Mode: 3}, Links: 1, Size: len("d/x of 3")})
	noStat(t, s, "g", api.ErrNone)
	noStat(t, s, "d/k", api.ErrNone)
	s = stacked(t, "l@", "l m@", "m k@")
	statIs(t, s, "l", api.Stat{Kind: api.Link, Links: 1, Size: len("l of 0")})
	statIs(t, s, "m", api.Stat{Kind: api.Link, Attr: api.Attr{Mode: 1}, Links: 1, Size: len("m of 1")})
	statIs(t, s, "k", api.Stat{Kind: api.Link, Attr: api.Attr{Mode: 2}, Links: 1, Size: len("k of 2")})
}

// TestGreatDirectories: as many names as a tree may have, in eight images and above them.
func TestGreatDirectories(t *testing.T) {
	var layers []string
	for i := range 9 {
		var words []string
		for k := range 1023 {
			words = append(words, fmt.Sprintf("%04d", k*(i+1)))
		}
		layers = append(layers, strings.Join(words, " "))
	}
	s := stacked(t, layers...)
	seen := map[int]bool{}
	for i := range 9 {
		for k := range 1023 {
			seen[k*(i+1)] = true
		}
	}
	sizeIs(t, s, "", 0, len(seen))
	l, e := s.List(nil)
	if e != api.OK || len(l) != len(seen) || !slices.IsSortedFunc(l, func(a, b api.Entry) int { return strings.Compare(a.Name, b.Name) }) {
		t.Errorf("List: %d names, error %d; wanted %d, rising", len(l), e, len(seen))
	}
	s.Up = upper.New(much)
	for k := range 3000 {
		if _, e := s.Up.Make(1, fmt.Sprintf("%04d", k), api.Node{Kind: api.White}); e != api.OK {
			t.Fatalf("Make: error %d", e)
		}
		delete(seen, k)
	}
	statIs(t, s, "", api.Stat{Kind: api.Dir, Attr: api.Attr{Mode: 493}, Links: 1, Size: len(seen)})
}
