package look_test

import (
	"fmt"
	"slices"
	"strings"
	"testing"

	"lamella/api"
	"lamella/image"
	"lamella/look"
	"lamella/upper"
)

// P20.1: Spots.

// spotsAre is of the layers, in text, or "none" (ErrNone), or "notdir" (ErrNotDir). Each ref must be the one that the names have there.
func spotsAre(t *testing.T, s *look.Stack, path, want string) {
	t.Helper()
	l, e := s.Spots(named(path))
	var layers []string
	for _, p := range l {
		layers = append(layers, fmt.Sprint(p.Layer))
		if ref, e := image.Find(layersOf(s)[p.Layer], named(path)); ref != p.Ref || e != api.OK {
			t.Errorf("Spots of %q: in layer %d the ref is %d, wanted %d, error %d", path, p.Layer, p.Ref, ref, e)
		}
	}
	got := strings.Join(layers, " ") + map[api.Errno]string{api.OK: "", api.ErrNone: "none", api.ErrNotDir: "notdir"}[e]
	if got != want || e != api.OK && len(l) != 0 {
		t.Errorf("Spots of %q: %v, error %d; wanted %s\n%s", path, l, e, want, shows(s))
	}
}

func TestSpotsOfNoNames(t *testing.T) {
	for _, x := range []struct {
		layers []string
		want   string
	}{
		{[]string{""}, "0"},
		{[]string{"!"}, "0"},
		{[]string{"", ""}, "0 1"},
		{[]string{"!", ""}, "0"},
		{[]string{"", "!"}, "0 1"},
		{[]string{"a- b", "a", "b", "c"}, "0 1 2 3"},
		{[]string{"! a- b", "a", "b", "c"}, "0"},
		{[]string{"a", "! b", "c", "d"}, "0 1"},
		{[]string{"a", "b", "! c", "d"}, "0 1 2"},
		{[]string{"a", "b", "! c", "! d"}, "0 1 2"},
		{[]string{"a", "b", "c", "! d"}, "0 1 2 3"},
		{[]string{"a", "b", "c", "d", "e", "f", "g", "h", "i"}, "0 1 2 3 4 5 6 7 8"},
	} {
		spotsAre(t, stacked(t, x.layers...), "", x.want)
	}
	s := stacked(t, "", "")
	if l, e := s.Spots([]string{}); !slices.Equal(l, []look.Spot{{Layer: 0, Ref: 1}, {Layer: 1, Ref: s.Low[0].Root()}}) || e != api.OK {
		t.Errorf("Spots of an empty list: %v, error %d", l, e)
	}
}

// spotsOf asks a stack for a row of paths, each with what is wanted behind a colon.
func spotsOf(t *testing.T, s *look.Stack, wanted ...string) {
	t.Helper()
	for _, x := range wanted {
		path, want, _ := strings.Cut(x, ":")
		spotsAre(t, s, path, want)
	}
}

// TestSpotsOfOneLayer: names that one layer alone has, the first, one in the midst, the last.
func TestSpotsOfOneLayer(t *testing.T) {
	s := stacked(t, "a a1/ a1/x", "b b1/ b1/x", "c@ c1/ c1/x c1/y/")
	spotsOf(t, s, "a:0", "a1:0", "a1/x:0", "b:1", "b1:1", "b1/x:1", "c:2", "c1:2", "c1/x:2", "c1/y:2")
}

// TestSpotsOfSomeLayers: directories in some and in all of four layers; of what is no directory, the first.
func TestSpotsOfSomeLayers(t *testing.T) {
	s := stacked(t, "d/ d/e/ f", "f d/ d/f", "d/ d/e/ d/e/x d/f l@", "f l@ d/ d/e/ d/e/x d/e/y")
	spotsOf(t, s, ":0 1 2 3", "d:0 1 2 3", "d/e:0 2 3", "d/f:1", "d/e/x:2", "d/e/y:3", "f:0", "l:2")
}

// TestSpotsEnd: at an Opaque directory, with it; ahead of what is no directory.
func TestSpotsEnd(t *testing.T) {
	spotsOf(t, stacked(t, "d!", "d/ d/x", "d/"), "d:0", "d/x:none")
	spotsOf(t, stacked(t, "d/", "d! d/x", "d/ d/x d/y"), "d:0 1", "d/x:1", "d/y:none")
	spotsOf(t, stacked(t, "d/", "d", "d/ d/x"), "d:0", "d/x:none")
	spotsOf(t, stacked(t, "d/", "", "d@", "d/ d/x"), "d:0", "d/x:none")
	spotsOf(t, stacked(t, "d/", "d/ d/y", "d-", "d/ d/x"), "d:0 1", "d/x:none", "d/y:1")
	spotsOf(t, stacked(t, "d/ d/e/", "d/ d/e- d/g", "d/ d/e/ d/e/x d/g"), "d:0 1 2", "d/e:0", "d/e/x:none", "d/g:1")
	spotsOf(t, stacked(t, "d/ d/e/", "d/", "d! d/e/", "d/ d/e/ d/e/x"), "d:0 1 2", "d/e:0 2", "d/e/x:none")
	spotsOf(t, stacked(t, "! d/", "d/ d/x"), "d:0", "d/x:none")
}

// TestSpotsOfWhatIsNotThere is ErrNone: of names that no layer has, that a White names, and of what is below these.
func TestSpotsOfWhatIsNotThere(t *testing.T) {
	s := stacked(t, "w- d/ d/w- e!", "w d/ d/w/ d/w/x e/ e/x", "w/ w/x d/ d/w/ d/w/x")
	spotsOf(t, s, "x:none", "x/y:none", "x/y/z:none", "d/x:none", "d/x/y:none")
	spotsOf(t, s, "w:none", "w/x:none", "w/x/y:none", "d/w:none", "d/w/x:none", "d/w/x/y:none", "e/x:none", "e/x/y:none")
	s = stacked(t, "", "w-", "w w2", "w/ w/x")
	spotsOf(t, s, "w:none", "w/x:none", "w2:2", "W:none", "ww:none", "w2x:none")
}

// TestSpotsBelowWhatIsNoDirectory is ErrNotDir: right below it, and further below; also where a layer behind has the names.
func TestSpotsBelowWhatIsNoDirectory(t *testing.T) {
	s := stacked(t, "f l@ d/ d/f", "f/ f/x/ f/x/y g l/ l/x d/ d/f/ d/f/x d/h", "g/ g/x h@ d/ d/h/ d/h/x")
	for _, path := range []string{"f", "l", "d/f", "g", "h", "d/h"} {
		spotsOf(t, s, path+"/x:notdir", path+"/x/y:notdir", path+"/none:notdir", path+"/none/a/b/c/d/e/f:notdir")
	}
	spotsOf(t, s, "f:0", "l:0", "d/f:0", "g:1", "h:2", "d/h:1")
	// What is hidden is no node on the way.
	s = stacked(t, "f- d/ e!", "f d", "f d/ d/x e", "e/ e/x")
	spotsOf(t, s, "f/x:none", "f/x/y:none", "d:0", "d/x:none", "d/x/y:none", "e/x:none", "e/x/y:none")
}

func TestSpotsOfTheExample(t *testing.T) {
	s := look.New(upper.New(api.Quota{}), images(t, "a"))
	listIs(t, s, "", "a")
	if stat, e := s.Stat([]string{"a", "b"}); stat != (api.Stat{}) || e != api.ErrNotDir {
		t.Errorf("Stat: %v, error %d", stat, e)
	}
	if !s.Behind([]string{"a"}) {
		t.Error("nothing is behind")
	}
}

// TestRefs: each ref is the one that the names have in that layer, and two names of a file have one.
func TestRefs(t *testing.T) {
	s := stacked(t, "z d/ d/a=1 d/b=1", "y x d/ d/c=1 e=1 d/a", "d/ d/c e")
	ref := func(layer int, path string) int {
		t.Helper()
		l, e := s.Spots(named(path))
		if e != api.OK || len(l) != 1 || l[0].Layer != layer {
			t.Errorf("Spots of %q: %v, error %d", path, l, e)
			return 0
		}
		return l[0].Ref
	}
	if a, b, z := ref(0, "d/a"), ref(0, "d/b"), ref(0, "z"); a != b || a == z {
		t.Errorf("the upper branch's refs are %d, %d, %d", a, b, z)
	}
	if c, e, x := ref(1, "d/c"), ref(1, "e"), ref(1, "x"); c != e || c == x {
		t.Errorf("the image's refs are %d, %d, %d", c, e, x)
	}
	l, e := s.Spots([]string{"d"})
	if e != api.OK || len(l) != 3 {
		t.Fatalf("Spots of d: %v, error %d", l, e)
	}
	for i, b := range layersOf(s) {
		x, e := b.Look(b.Root(), "d")
		if l[i] != (look.Spot{Layer: i, Ref: x.Ref}) || e != api.OK {
			t.Errorf("layer %d: %v, wanted the ref %d", i, l[i], x.Ref)
		}
	}
}

// TestNamesAreBytes: names are told apart as bytes, at each length that a name may have.
func TestNamesAreBytes(t *testing.T) {
	long := strings.Repeat("n", 255)
	s := stacked(t, "A \xff \xc3\xa9/ "+long+"/", "a \xfe \xc3\xa9/ \xc3\xa9/\xc3 "+long+"/ "+long+"/"+long)
	spotsOf(t, s, "A:0", "a:1", "\xff:0", "\xfe:1", "\xc3\xa9:0 1", "\xc3:none", "\xc3\xa9/\xc3:1", long+":0 1", long[1:]+":none", long+"n:none", long+"/"+long+":1")
}

// TestDeepNames: as many names as a node may have, and more.
func TestDeepNames(t *testing.T) {
	var words []string
	for i := 1; i <= 15; i++ {
		words = append(words, strings.Repeat("d/", i))
	}
	deep := strings.Join(words, " ")
	path := strings.Repeat("d/", 15)
	s := stacked(t, deep, deep+" "+path+"x", deep+" "+path+"y/ "+path+"x/")
	spotsOf(t, s, strings.TrimSuffix(path, "/")+":0 1 2", path+"x:1", path+"y:2", path+"z:none", path+"x/z:notdir", path+"y/z:none", path+"y/"+path+"z:none")
}
