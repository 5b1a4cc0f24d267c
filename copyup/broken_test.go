package copyup_test

import (
	"fmt"
	"slices"
	"strings"
	"testing"

	"lamella/api"
	"lamella/build"
	"lamella/copyup"
	"lamella/image"
	"lamella/look"
	"lamella/mount"
	"lamella/upper"
)

// Branches that tell errors on the way: images that were spoilt, and others.

// files is a tree with files of blocks and tails, one of two names.
func files() []api.Node {
	bytes := mixed(400)
	l := lay(1, "a b=1 c d/ d/e=1 d/f l@")
	for i, n := range l {
		switch strings.Join(n.Names, "/") {
		case "a", "c":
			l[i].Data = bytes[i : i+200]
		case "b", "d/e":
			l[i].Data = bytes[:128]
		case "d/f":
			l[i].Data = bytes[300:390]
		}
	}
	return l
}

func built(t *testing.T, l []api.Node) []byte {
	t.Helper()
	b, e := build.Build(l)
	if e != api.OK {
		t.Fatalf("Build: error %d", e)
	}
	return b
}

// TestASpoiltFile: its bytes can't be read, all else can be laid down.
func TestASpoiltFile(t *testing.T) {
	b := built(t, files())
	b[api.SuperSize+9] ^= 1 // within the first block, which is of a
	m, e := mount.Mount(b)
	if e != api.OK {
		t.Fatalf("Mount: error %d", e)
	}
	s := look.New(upper.New(much), []*mount.Image{m})
	if ref, e := copyup.Up(s, named("a")); ref != 0 || e != api.ErrIO {
		t.Errorf("Up: %d, error %d", ref, e)
	}
	if e := copyup.Mark(s, named("a/x")); e != api.ErrIO { // what is ahead is laid down first
		t.Errorf("Mark below the file: error %d", e)
	}
	s = look.New(upper.New(much), []*mount.Image{m})
	up(t, s, "c", "/493 c1")
	up(t, s, "d/f", "/493 c1 d/1 d/f1")
	up(t, s, "d/e", "/493 c1 d/1 d/e1 d/f1")
	mark(t, s, "a", "/493 a- c1 d/1 d/e1 d/f1") // a mark asks for no bytes
	cleared(t, s, "a", "/493 c1 d/1 d/e1 d/f1")
	if _, e := s.Up.Make(1, "a", api.Node{Kind: api.File}); e != api.OK {
		t.Fatalf("Make: error %d", e)
	}
	up(t, s, "a", "/493 a0 c1 d/1 d/e1 d/f1") // it is not read any more
}

// laidDown holds an Up of a clone against what is told of the names.
func laidDown(t *testing.T, what string, s *look.Stack, names []string) (lost bool) {
	t.Helper()
	c := cloned(s)
	spots, want := s.Spots(names)
	if want == api.OK && spots[0].Layer > 0 {
		if stat, _ := s.Stat(names); stat.Kind == api.File {
			_, want = s.Read(names, 0, stat.Size)
		}
	}
	ref, e := copyup.Up(c, names)
	if e != want {
		t.Fatalf("%s: Up of %q: error %d, wanted %d", what, names, e, want)
	}
	if e != api.OK {
		if ref != 0 {
			t.Fatalf("%s: Up of %q: %d beside error %d", what, names, ref, e)
		}
		return e == api.ErrIO
	}
	if at, none := image.Find(c.Up, names); at != ref || none != api.OK || c.Up.Opaque(ref) && spots[0].Layer > 0 {
		t.Fatalf("%s: Up of %q: %d, found is %d, error %d, Opaque %t", what, names, ref, at, none, c.Up.Opaque(ref))
	}
	for i := range len(names) + 1 {
		if got, want := toldOf(c, names[:i]), toldOf(s, names[:i]); got != want {
			t.Fatalf("%s: Up of %q: of %q is told\n%s\nand was\n%s", what, names, names[:i], got, want)
		}
	}
	return false
}

// hidden holds a Mark of a clone against what is told of the names ahead.
func hidden(t *testing.T, what string, s *look.Stack, names []string) {
	t.Helper()
	if _, e := image.Find(s.Up, names); len(names) == 0 || e == api.OK {
		return
	}
	c := cloned(s)
	ahead := names[:len(names)-1]
	stat, want := s.Stat(ahead)
	if want == api.OK && stat.Kind == api.File {
		_, want = s.Read(ahead, 0, stat.Size)
	}
	if want == api.OK && stat.Kind != api.Dir {
		want = api.ErrNotDir
	}
	e := copyup.Mark(c, names)
	if e != want {
		t.Fatalf("%s: Mark of %q: error %d, wanted %d", what, names, e, want)
	}
	if e != api.OK {
		if c.Up.Used() != s.Up.Used() {
			t.Fatalf("%s: Mark of %q, which is none, changes what is above", what, names)
		}
		return
	}
	noStat(t, c, api.ErrNone, strings.Join(names, "/"))
	if was, e := copyup.Clear(c, names); !was || e != api.OK {
		t.Fatalf("%s: Clear of %q: %t, error %d", what, names, was, e)
	}
	if got, want := toldOf(c, names), toldOf(s, names); got != want {
		t.Fatalf("%s: Clear of %q: told is\n%s\nand was\n%s", what, names, got, want)
	}
}

// TestSpoiltImages: each byte of an image is turned. What can be mounted is laid down as it is told, above and behind other layers.
func TestSpoiltImages(t *testing.T) {
	whole := built(t, files())
	good := opened(t, files())
	lost, refused := 0, 0
	for i := range whole {
		b := slices.Clone(whole)
		b[i] ^= byte(1 + i%255)
		m, e := mount.Mount(b)
		if e != api.OK {
			refused++
			continue
		}
		for what, s := range map[string]*look.Stack{
			"alone":  look.New(upper.New(much), []*mount.Image{m}),
			"ahead":  look.New(filled(t, lay(0, "d/ d/g c- a")), []*mount.Image{m, good}),
			"behind": look.New(filled(t, lay(0, "d/ l-")), []*mount.Image{good, m}),
		} {
			what = fmt.Sprintf("an image with the byte %d turned, %s", i, what)
			for _, names := range allNames(s) {
				if laidDown(t, what, s, names) {
					lost++
				}
				hidden(t, what, s, names)
			}
		}
	}
	if lost < 500 || refused < 200 {
		t.Errorf("%d files with bytes that can't be read, %d refused", lost, refused)
	}
}

// strange is a branch that may tell an error of one call, of one ref; and else what tell makes of what is there. What it hands out it keeps.
type strange struct {
	image.Branch
	call   string
	ref    int // 0: all
	e      api.Errno
	tell   func(stat api.Stat) api.Stat
	bytes  []byte
	target *string
	attrs  []api.Xattr
}

func (s *strange) error(call string, ref int, e api.Errno) api.Errno {
	if s.call == call && (s.ref == 0 || s.ref == ref) {
		return s.e
	}
	return e
}

func (s *strange) Stat(ref int) (api.Stat, api.Errno) {
	x, e := s.Branch.Stat(ref)
	if s.tell != nil {
		x = s.tell(x)
	}
	return x, s.error("Stat", ref, e)
}

func (s *strange) Look(ref int, name string) (api.Entry, api.Errno) {
	x, e := s.Branch.Look(ref, name)
	return x, s.error("Look", ref, e)
}

func (s *strange) List(ref int) ([]api.Entry, api.Errno) {
	l, e := s.Branch.List(ref)
	return l, s.error("List", ref, e)
}

func (s *strange) Read(ref, off, n int) ([]byte, api.Errno) {
	b, e := s.Branch.Read(ref, off, n)
	if s.bytes == nil {
		s.bytes = b
	}
	return s.bytes, s.error("Read", ref, e)
}

func (s *strange) Target(ref int) (string, api.Errno) {
	x, e := s.Branch.Target(ref)
	if s.target != nil {
		x = *s.target
	}
	return x, s.error("Target", ref, e)
}

func (s *strange) Xattrs(ref int) ([]api.Xattr, api.Errno) {
	l, e := s.Branch.Xattrs(ref)
	if s.attrs == nil {
		s.attrs = l
	}
	return s.attrs, s.error("Xattrs", ref, e)
}

// TestErrorsOnTheWay: each call that is needed tells its error, Read ErrIO whatever it is.
func TestErrorsOnTheWay(t *testing.T) {
	needed := map[string]string{"f": "Look Stat Read Xattrs", "l": "Look Stat Target Xattrs", "d": "Look Stat List Xattrs", "d/x": "Look Stat List Read Xattrs", "u": "Look"}
	for _, e := range []api.Errno{api.ErrIO, api.ErrArg, api.ErrCorrupt, 99, -1} {
		for _, call := range []string{"Look", "List", "Stat", "Read", "Target", "Xattrs"} {
			for path, calls := range needed {
				low := &strange{Branch: opened(t, lay(1, "d/ d/x f l@ u")), call: call, e: e}
				s := &look.Stack{Up: filled(t, lay(0, "u")), Low: []image.Branch{low}}
				want := api.OK
				if strings.Contains(" "+calls+" ", " "+call+" ") {
					want = e
					if call == "Read" {
						want = api.ErrIO
					}
				}
				ref, got := copyup.Up(s, named(path))
				if got != want || (got == api.OK) != (ref != 0) {
					t.Errorf("an error %d of %s: Up of %q: %d, error %d; wanted %d", e, call, path, ref, got, want)
				}
			}
		}
	}
}

// TestErrorsOfMark: it asks for nothing of what it hides; what it asks for ahead tells its error, and nothing is changed then.
func TestErrorsOfMark(t *testing.T) {
	l := lay(1, "d/ d/e/ d/e/x f")
	for _, call := range []string{"Stat", "List", "Xattrs", "Look"} {
		for _, path := range []string{"d", "d/e"} {
			m := opened(t, l)
			ref, e := image.Find(m, named(path))
			if e != api.OK {
				t.Fatalf("Find: error %d", e)
			}
			s := &look.Stack{Up: upper.New(much), Low: []image.Branch{&strange{Branch: m, call: call, ref: ref, e: 77}}}
			want := api.Errno(77)
			if call == "Look" && path == "d/e" {
				want = api.OK // the last name is not asked for
			}
			if e := copyup.Mark(s, named("d/e/x")); e != want || e != api.OK && s.Up.Used().Nodes != 1 {
				t.Errorf("an error of %s of %q: Mark: error %d, and %+v", call, path, e, s.Up.Used())
			}
		}
	}
	m := opened(t, l)
	for _, call := range []string{"Stat", "List", "Read", "Target", "Xattrs", "Look"} {
		for _, path := range []string{"d", "f"} {
			ref, _ := image.Find(m, named(path))
			s := &look.Stack{Up: upper.New(much), Low: []image.Branch{&strange{Branch: m, call: call, ref: ref, e: 77}}}
			if e := copyup.Mark(s, named(path)); e != api.OK {
				t.Errorf("an error of %s: Mark of %q: error %d", call, path, e)
			}
			if was, e := copyup.Clear(s, named(path)); !was || e != api.OK {
				t.Errorf("an error of %s: Clear of %q: %t, error %d", call, path, was, e)
			}
		}
	}
}

// TestClearAsksTheUpperBranchAlone.
func TestClearAsksTheUpperBranchAlone(t *testing.T) {
	for _, call := range []string{"Stat", "List", "Read", "Target", "Xattrs", "Look"} {
		low := &strange{Branch: opened(t, lay(1, "d/ d/w w")), call: call, e: 77}
		s := &look.Stack{Up: filled(t, lay(0, "d/ d/w- w-")), Low: []image.Branch{low}}
		cleared(t, s, "w", "/0 d/0 d/w-")
		cleared(t, s, "d/w", "/0 d/0")
		noClear(t, s, "d", "w", "d/w", "e/w")
	}
}

// TestWhatMayNotBe: what the upper branch refuses is its error.
func TestWhatMayNotBe(t *testing.T) {
	long, nought := strings.Repeat("t", api.MaxTarget+1), ""
	for what, low := range map[string]*strange{
		"a Mode":            {tell: func(x api.Stat) api.Stat { x.Attr.Mode = 512; return x }},
		"a Uid":             {tell: func(x api.Stat) api.Stat { x.Attr.Uid = -1; return x }},
		"a Kind":            {tell: func(x api.Stat) api.Stat { x.Kind = 9; return x }},
		"no Kind":           {tell: func(x api.Stat) api.Stat { x.Kind = 0; return x }},
		"too many bytes":    {bytes: make([]byte, api.MaxFile+1)},
		"a long target":     {target: &long},
		"no target":         {target: &nought},
		"attributes' names": {attrs: []api.Xattr{{Name: ""}}},
		"two of one name":   {attrs: []api.Xattr{{Name: "a"}, {Name: "a"}}},
	} {
		low.Branch = opened(t, lay(1, "f l@"))
		s := &look.Stack{Up: upper.New(much), Low: []image.Branch{low}}
		refused := 0
		for _, path := range []string{"f", "l"} {
			ref, e := copyup.Up(s, named(path))
			if e != api.OK && (e != api.ErrArg || ref != 0) {
				t.Errorf("%s: Up of %q: %d, error %d", what, path, ref, e)
			}
			if e == api.ErrArg {
				refused++
			}
		}
		if refused == 0 {
			t.Errorf("%s: nothing is refused", what)
		}
	}
}

// TestNamesThatAreNone: names are asked of that are valid; of others no call panics.
func TestNamesThatAreNone(t *testing.T) {
	for _, last := range []string{"", ".", "..", "a/b", "a\x00", strings.Repeat("n", 256)} {
		for _, names := range [][]string{{last}, {"d", last}, {last, "d"}, {last, last, last}, {"f", last}} {
			s := stacked(t, "w-", "d/ f")
			if ref, e := copyup.Up(s, names); ref != 0 || e == api.OK {
				t.Errorf("Up of %.9q: %d, error %d", names, ref, e)
			}
			if e := copyup.Mark(s, names); e == api.OK {
				t.Errorf("Mark of %.9q: error %d", names, e)
			}
			if was, e := copyup.Clear(s, names); was || e != api.OK {
				t.Errorf("Clear of %.9q: %t, error %d", names, was, e)
			}
		}
	}
	many := slices.Repeat([]string{"d"}, 5000)
	s := stacked(t, "", "d/ d/d/")
	if _, e := copyup.Up(s, many); e != api.ErrNone {
		t.Errorf("Up of many names: error %d", e)
	}
	if e := copyup.Mark(s, many); e != api.ErrNone {
		t.Errorf("Mark of many names: error %d", e)
	}
	if was, e := copyup.Clear(s, many); was || e != api.OK {
		t.Errorf("Clear of many names: %t, error %d", was, e)
	}
}
