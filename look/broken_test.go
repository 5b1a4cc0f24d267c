package look_test

import (
	"fmt"
	"slices"
	"strings"
	"testing"

	"lamella/api"
	"lamella/build"
	"lamella/image"
	"lamella/look"
	"lamella/mount"
	"lamella/upper"
)

// Branches that tell errors on the way: images that were spoilt, and others.

// files is a tree with files of blocks and tails, one of two names.
func files() []api.Node {
	mixed := make([]byte, 400)
	for i := range mixed {
		mixed[i] = byte(i*i*31 + i>>3)
	}
	l := lay(1, "a b=1 c d/ d/e=1 d/f l@")
	for i, n := range l {
		switch strings.Join(n.Names, "/") {
		case "a", "c":
			l[i].Data = mixed[i : i+200]
		case "b", "d/e":
			l[i].Data = mixed[:128]
		case "d/f":
			l[i].Data = mixed[300:390]
		}
	}
	return l
}

func built(t *testing.T, l []api.Node) []byte {
	t.Helper()
	b, e := build.Build(l)
	if e != api.OK {
		t.Fatalf("Build: error %d", e)
	}
	return b
}

// TestSpoiltImages: each byte of an image is turned. What can be mounted is held against the model, above and behind other layers; what is lost is files' bytes alone.
func TestSpoiltImages(t *testing.T) {
	whole := built(t, files())
	good := opened(t, files())
	lost, refused := 0, 0
	for i := range whole {
		b := slices.Clone(whole)
		b[i] ^= byte(1 + i%255)
		m, e := mount.Mount(b)
		if e != api.OK {
			refused++
			continue
		}
		for what, s := range map[string]*look.Stack{
			"alone":   look.New(upper.New(much), []*mount.Image{m}),
			"ahead":   look.New(filled(t, lay(0, "d/ d/g c- a")), []*mount.Image{m, good}),
			"behind":  look.New(filled(t, lay(0, "d/")), []*mount.Image{good, m}),
			"between": {Up: upper.New(much), Low: []image.Branch{filled(t, lay(3, "d/ d/f- b")), m, good}},
		} {
			agrees(t, fmt.Sprintf("an image with the byte %d turned, %s", i, what), s)
			if _, e := s.Tree(); e == api.ErrIO {
				lost++
			} else if e != api.OK {
				t.Errorf("byte %d, %s: Tree: error %d", i, what, e)
			}
		}
	}
	if lost < 1000 || refused < 200 {
		t.Errorf("%d images with bytes that can't be read, %d refused", lost, refused)
	}
}

// TestASpoiltFile: its bytes are lost, all else is told.
func TestASpoiltFile(t *testing.T) {
	b := built(t, files())
	b[api.SuperSize+9] ^= 1 // within the first block, which is of a
	m, e := mount.Mount(b)
	if e != api.OK {
		t.Fatalf("Mount: error %d", e)
	}
	u := upper.New(much)
	s := look.New(u, []*mount.Image{m})
	readIs(t, s, "a", 0, 1, "", api.ErrIO)
	readIs(t, s, "a", 0, 200, "", api.ErrIO)
	readIs(t, s, "a", 128, 72, string(files()[1].Data[128:]), api.OK)
	readIs(t, s, "c", 0, 200, string(files()[3].Data), api.OK)
	statIs(t, s, "a", api.Stat{Kind: api.File, Attr: api.Attr{Mode: 1}, Links: 1, Size: 200})
	spotsAre(t, s, "a", "1")
	listIs(t, s, "", "a b c d/ l@")
	if l, e := s.Tree(); len(l) != 0 || e != api.ErrIO {
		t.Errorf("Tree: %d nodes, error %d", len(l), e)
	}
	if ref, e := u.Make(1, "a", api.Node{Kind: api.File, Data: []byte("whole")}); ref != 2 || e != api.OK {
		t.Fatalf("Make: %d, error %d", ref, e)
	}
	readIs(t, s, "a", 0, 9, "whole", api.OK)
	if l, e := s.Tree(); len(l) != 0 || e != api.ErrIO { // the image's tree can't be told, whatever is above it
		t.Errorf("Tree with the file above: %d nodes, error %d", len(l), e)
	}
}

// strange is a branch that may tell an error of one call, of all refs or of one; and what it has beside. What it hands out it keeps.
type strange struct {
	image.Branch
	call  string
	ref   int // 0: all
	e     api.Errno
	bytes []byte
	attrs []api.Xattr
}

func (s *strange) error(call string, ref int, e api.Errno) api.Errno {
	if s.call == call && (s.ref == 0 || s.ref == ref) {
		return s.e
	}
	return e
}

func (s *strange) Stat(ref int) (api.Stat, api.Errno) {
	x, e := s.Branch.Stat(ref)
	return x, s.error("Stat", ref, e)
}

func (s *strange) Look(ref int, name string) (api.Entry, api.Errno) {
	x, e := s.Branch.Look(ref, name)
	return x, s.error("Look", ref, e)
}

func (s *strange) List(ref int) ([]api.Entry, api.Errno) {
	l, e := s.Branch.List(ref)
	return l, s.error("List", ref, e)
}

func (s *strange) Read(ref, off, n int) ([]byte, api.Errno) {
	b, e := s.Branch.Read(ref, off, n)
	if s.bytes == nil {
		s.bytes = b
	}
	return s.bytes, s.error("Read", ref, e)
}

func (s *strange) Target(ref int) (string, api.Errno) {
	x, e := s.Branch.Target(ref)
	return x, s.error("Target", ref, e)
}

func (s *strange) Xattrs(ref int) ([]api.Xattr, api.Errno) {
	l, e := s.Branch.Xattrs(ref)
	if s.attrs == nil {
		s.attrs = l
	}
	return s.attrs, s.error("Xattrs", ref, e)
}

// TestErrorsOnTheWay: each call tells the error that a branch tells it, and nothing beside it.
func TestErrorsOnTheWay(t *testing.T) {
	for _, e := range []api.Errno{api.ErrIO, api.ErrArg, api.ErrCorrupt, 99, -1} {
		for _, call := range []string{"Look", "List", "Stat", "Read", "Target", "Xattrs"} {
			low := &strange{Branch: opened(t, lay(1, "d/ d/x f l@")), call: call, e: e}
			s := &look.Stack{Up: filled(t, lay(0, "d/ u")), Low: []image.Branch{low}}
			fails := func(what, wanted string, got api.Errno, isZero bool) {
				t.Helper()
				if want := map[bool]api.Errno{true: e, false: api.OK}[strings.Contains(" "+wanted+" ", " "+call+" ")]; got != want || got != api.OK && !isZero {
					t.Errorf("an error %d of %s: %s: error %d, wanted %d; all else is zero: %t", e, call, what, got, want, isZero)
				}
			}
			spots, got := s.Spots(named("d/x"))
			fails("Spots", "Look", got, spots == nil)
			stat, got := s.Stat(named("d"))
			fails("Stat of a directory", "Look List", got, stat == api.Stat{})
			stat, got = s.Stat(named("f"))
			fails("Stat of a file", "Look Stat", got, stat == api.Stat{})
			list, got := s.List(nil)
			fails("List", "List", got, list == nil)
			b, got := s.Read(named("f"), 0, 9)
			fails("Read", "Look Read", got, b == nil)
			target, got := s.Target(named("l"))
			fails("Target", "Look Target", got, target == "")
			xattrs, got := s.Xattrs(named("f"))
			fails("Xattrs", "Look Xattrs", got, xattrs == nil)
			nodes, got := s.Tree()
			fails("Tree", "Stat List Read Target Xattrs", got, nodes == nil)
			if is := s.Behind(named("d/x")); is != (call != "Look") {
				t.Errorf("an error of %s: Behind: %t", call, is)
			}
		}
	}
}

// TestNothingIsAskedForBelowWhatIsNoDirectory, nor of layers that the directory is not made of: what these would tell makes no difference.
func TestNothingIsAskedForBelowWhatIsNoDirectory(t *testing.T) {
	m := opened(t, lay(1, "f l@ d/ d/x e/ e/x"))
	for _, path := range []string{"f", "l", "d", "e"} {
		ref, e := image.Find(m, named(path))
		if e != api.OK {
			t.Fatalf("Find: error %d", e)
		}
		low := &strange{Branch: m, call: "Look", ref: ref, e: api.ErrIO}
		s := &look.Stack{Up: filled(t, lay(0, "d! e")), Low: []image.Branch{low}}
		spotsOf(t, s, "f/x:notdir", "f/x/y:notdir", "l/x:notdir", "d:0", "d/x:none", "e:0", "e/x:notdir")
		low.call = "List"
		listIs(t, s, "d", "")
		noList(t, s, "e", api.ErrNotDir)
	}
}

// TestTheFirstErrorOfTree: of several layers that tell one, that of the topmost.
func TestTheFirstErrorOfTree(t *testing.T) {
	failing := func(call string, e api.Errno) image.Branch {
		return &strange{Branch: opened(t, lay(1, "a l@ b")), call: call, e: e}
	}
	good := opened(t, lay(2, "a c"))
	for i, x := range []struct {
		low  []image.Branch
		want api.Errno
	}{
		{[]image.Branch{good, good, good}, api.OK},
		{[]image.Branch{failing("Read", 70), failing("Read", 71), good}, 70},
		{[]image.Branch{good, failing("Target", 70), failing("Read", 71)}, 70},
		{[]image.Branch{failing("List", 71), failing("Stat", 70)}, 71},
		{[]image.Branch{good, good, failing("Xattrs", 72)}, 72},
	} {
		for _, up := range []string{"", "a- l- b-", "! c"} { // also of what is hidden
			s := &look.Stack{Up: filled(t, lay(0, up)), Low: x.low}
			if l, e := s.Tree(); e != x.want || (e == api.OK) != (len(l) > 0) {
				t.Errorf("row %d below %q: Tree: %d nodes, error %d; wanted %d", i, up, len(l), e, x.want)
			}
		}
	}
}

// TestAnswersOfStrangeBranches: a branch hands out what it keeps; what is told of it is the caller's own nevertheless.
func TestAnswersOfStrangeBranches(t *testing.T) {
	l := lay(1, "f")
	l[1].Xattrs = []api.Xattr{{Name: "a", Value: []byte("v")}}
	s := &look.Stack{Up: upper.New(much), Low: []image.Branch{&strange{Branch: opened(t, l)}}}
	for range 2 {
		readIs(t, s, "f", 0, 9, "f of 1", api.OK)
		xattrsAre(t, s, "f", l[1].Xattrs, api.OK)
		overwrite(s, named("f"))
	}
}

// TestBranchesOfOtherKinds: an upper branch within something is no upper one: nothing of it is Opaque, but its Whites hide.
func TestBranchesOfOtherKinds(t *testing.T) {
	u := filled(t, lay(1, "! d! d/x w-"))
	s := &look.Stack{Up: upper.New(much), Low: []image.Branch{&strange{Branch: u}, opened(t, lay(2, "a d/ d/y w"))}}
	listIs(t, s, "", "a d/")
	listIs(t, s, "d", "x y")
	spotsAre(t, s, "d", "1 2")
	spotsAre(t, s, "w", "none")
	s.Low[0] = u
	listIs(t, s, "", "d/")
	listIs(t, s, "d", "x")
}
