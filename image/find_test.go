package image_test

import (
	"fmt"
	"slices"
	"strings"
	"testing"

	"lamella/api"
	"lamella/image"
	"lamella/tree"
)

// P16.1: Find.

// finds holds that names lead to something, or to the error; beside that the ref is 0.
func finds(t *testing.T, what string, b image.Branch, names []string, want api.Errno) int {
	t.Helper()
	ref, e := image.Find(b, names)
	if e != want || e != api.OK && ref != 0 {
		t.Errorf("%s: Find of %.60q: %d, error %d; wanted error %d", what, names, ref, e, want)
	}
	return ref
}

// where is what Find is by the chapter's words: of a tree in canonical order the Ino that names lead to.
func where(l []api.Node, names []string) (int, api.Errno) {
	for n := 1; n < len(names); n++ {
		i := tree.Find(l, names[:n])
		if i < 0 {
			return 0, api.ErrNone
		}
		if l[i].Kind != api.Dir {
			return 0, api.ErrNotDir
		}
	}
	i := tree.Find(l, names)
	if i < 0 {
		return 0, api.ErrNone
	}
	return l[i].Ino, api.OK
}

func TestFindOfNoNames(t *testing.T) {
	for what, l := range trees() {
		m := opened(t, what, l)
		for _, names := range [][]string{nil, {}, named("a/b")[:0]} {
			if ref := finds(t, what, m, names, api.OK); ref != m.Root() {
				t.Errorf("%s: Find of no names: %d, wanted %d", what, ref, m.Root())
			}
		}
	}
	for what, scheme := range refSchemes() {
		s := strange(canon(t, what, world()), scheme)
		if ref := finds(t, what, s, nil, api.OK); ref != scheme(0) {
			t.Errorf("%s: Find of no names: %d, wanted %d", what, ref, scheme(0))
		}
	}
}

// TestFindOfAll: each node's names lead to what lists tell as its ref, and, of a branch that is none of ours, to the ref that it has.
func TestFindOfAll(t *testing.T) {
	for what, l := range trees() {
		l = canon(t, what, l)
		m := opened(t, what, l)
		for _, n := range l {
			ref := finds(t, what, m, n.Names, api.OK)
			stat, e := m.Stat(ref)
			if e != api.OK || stat.Kind != n.Kind || stat.Attr != n.Attr {
				t.Errorf("%s: %q: %+v, error %d", what, n.Names, stat, e)
			}
			if last := len(n.Names) - 1; last >= 0 {
				entries, _ := m.List(finds(t, what, m, n.Names[:last], api.OK))
				if !slices.Contains(entries, api.Entry{Name: n.Names[last], Kind: n.Kind, Ref: ref}) {
					t.Errorf("%s: %q: %d is no ref of %v", what, n.Names, ref, entries)
				}
			}
			for scheming, scheme := range refSchemes() {
				if ref := finds(t, what, strange(l, scheme), n.Names, api.OK); ref != scheme(n.Ino-1) {
					t.Errorf("%s, %s: %q: %d, wanted %d", what, scheming, n.Names, ref, scheme(n.Ino-1))
				}
			}
		}
	}
}

// TestFindOfOnes: names of one thing lead to one ref, and others to others.
func TestFindOfOnes(t *testing.T) {
	for _, what := range []string{"a world", "files that are one", "symbolic links that are one", "same blocks"} {
		l := canon(t, what, trees()[what])
		m := opened(t, what, l)
		for _, a := range l {
			for _, b := range l {
				if same := finds(t, what, m, a.Names, api.OK) == finds(t, what, m, b.Names, api.OK); same != (a.Ino == b.Ino) {
					t.Errorf("%s: %q and %q: one ref: %v", what, a.Names, b.Names, same)
				}
			}
		}
	}
}

func TestFindOfNone(t *testing.T) {
	m := opened(t, "a world", world())
	for path, want := range map[string]api.Errno{
		"x": api.ErrNone, "A": api.ErrNone, "aa": api.ErrNone, "d/x": api.ErrNone, "d/e/x": api.ErrNone, "empty/x": api.ErrNone, "o/p/q/x": api.ErrNone, "f": api.ErrNone,
		"x/y": api.ErrNone, "x/y/z": api.ErrNone, "x/a": api.ErrNone, "d/x/f": api.ErrNone, "d/e/f/t": api.ErrNone, "o/x/q/r": api.ErrNone,
		"a/y": api.ErrNotDir, "a/a": api.ErrNotDir, "a/y/z": api.ErrNotDir, "d/f/x": api.ErrNotDir, "d/t/e/f": api.ErrNotDir, "c/x": api.ErrNotDir, "o/p/q/r/s": api.ErrNotDir,
		"l/e": api.ErrNotDir, "l/x": api.ErrNotDir, "l/f/x": api.ErrNotDir, "d/l/x": api.ErrNotDir, "m/x": api.ErrNotDir, "empty2/x": api.ErrNotDir,
		"": api.OK, "l": api.OK, "d/l": api.OK, "m": api.OK, "c": api.OK, "empty": api.OK, "o/p/q/r": api.OK,
	} {
		finds(t, "a world", m, named(path), want)
		for scheming, scheme := range refSchemes() {
			finds(t, scheming, strange(canon(t, scheming, world()), scheme), named(path), want)
		}
	}
}

// TestFindOfNamesThatAreNone: texts that are no names are there as little as others that are not, and lead to no other error.
func TestFindOfNamesThatAreNone(t *testing.T) {
	m := opened(t, "a world", world())
	for _, s := range []string{"", ".", "..", "/", "d/e", "/a", "a/", "d/", "a\x00", "\x00", "\xff", strings.Repeat("n", 256), strings.Repeat("a", 100000)} {
		for path, want := range map[string]api.Errno{"": api.ErrNone, "d": api.ErrNone, "empty": api.ErrNone, "a": api.ErrNotDir, "l": api.ErrNotDir, "x": api.ErrNone, "d/f": api.ErrNotDir, "d/f/x": api.ErrNotDir} {
			finds(t, "a world", m, append(named(path), s), want)
			finds(t, "a world", m, append(named(path), s, "a"), want)
			finds(t, "a world", m, append(named(path), s, ""), want)
		}
	}
}

// TestFindDoesNotFollow: a symbolic link as the last name is what is found.
func TestFindDoesNotFollow(t *testing.T) {
	m := opened(t, "a world", world())
	for path, want := range map[string]string{"l": "d", "d/l": "../c", "m": "nowhere"} {
		ref := finds(t, "a world", m, named(path), api.OK)
		if s, e := m.Target(ref); s != want || e != api.OK {
			t.Errorf("%s: Target %q, error %d", path, s, e)
		}
	}
}

func TestFindOfManyNames(t *testing.T) {
	for _, n := range []int{1, 2, 15, 16} {
		what := fmt.Sprint("a chain of ", n)
		m := opened(t, what, chain(n))
		names := append(slices.Repeat([]string{"d"}, n-1), "f")
		ref := finds(t, what, m, names, api.OK)
		if b, e := m.Read(ref, 0, 10); string(b) != "deep" || e != api.OK {
			t.Errorf("%s: Read %q, error %d", what, b, e)
		}
		finds(t, what, m, append(names, "f"), api.ErrNotDir)
		finds(t, what, m, append(names, slices.Repeat([]string{"d"}, 5000)...), api.ErrNotDir)
		finds(t, what, m, slices.Repeat([]string{"d"}, n), api.ErrNone)
		finds(t, what, m, slices.Repeat([]string{"d"}, 5000), api.ErrNone)
		finds(t, what, m, append(slices.Clone(names[:n-1]), "x", "f"), api.ErrNone)
	}
}

// TestFindAsTheWordsHaveIt: rows of names out of few ones, each held against the words.
func TestFindAsTheWordsHaveIt(t *testing.T) {
	pool := []string{"a", "b", "c", "d", "e", "f", "l", "m", "o", "p", "q", "r", "x", "y", "z", "empty", ""}
	counts := map[api.Errno]int{}
	for what, l := range map[string][]api.Node{"a world": world(), "files that are one": oneFiles(), "symbolic links that are one": trees()["symbolic links that are one"]} {
		l = canon(t, what, l)
		m, s := opened(t, what, l), strange(l, func(i int) int { return 5 - i })
		var names []string
		var try func()
		try = func() {
			ino, want := where(l, names)
			counts[want]++
			ref := finds(t, what, s, names, want)
			if want == api.OK && ref != 6-ino {
				t.Errorf("%s: %q: %d, wanted %d", what, names, ref, 6-ino)
			}
			finds(t, what, m, names, want)
			if len(names) == 3 {
				return
			}
			for _, x := range pool {
				names = append(names, x)
				try()
				names = names[:len(names)-1]
			}
		}
		try()
	}
	if counts[api.OK] < 30 || counts[api.ErrNone] < 1000 || counts[api.ErrNotDir] < 1000 {
		t.Errorf("%v", counts)
	}
}

// TestFindTellsLook: of a branch whose Look tells an error Find tells it, if it comes to it, and beside it nothing; other calls' errors are none of Find's.
func TestFindTellsLook(t *testing.T) {
	l := canon(t, "a world", world())
	ref := func(i int) int { return -7 * i }
	at := func(path string) int {
		ino, _ := where(l, named(path))
		return ref(ino - 1)
	}
	for _, loose := range []bool{false, true} {
		for _, e := range []api.Errno{api.ErrIO, api.ErrArg, api.ErrCorrupt, 99, -1} {
			s := strange(l, ref)
			s.loose = loose
			s.failing(callLook, at("o/p"), e)
			for path, want := range map[string]api.Errno{"o/p/q": e, "o/p/q/r": e, "o/p/x": e, "o/p/x/y": e, "o/p": api.OK, "o": api.OK, "": api.OK, "a": api.OK, "o/x/q": api.ErrNone, "a/p/q": api.ErrNotDir} {
				finds(t, "a Look that tells an error", s, named(path), want)
			}
			s.failingAll(callLook, e)
			for path, want := range map[string]api.Errno{"": api.OK, "a": e, "x": e, "d/f": e, "a/b/c": e} {
				finds(t, "Looks that tell an error", s, named(path), want)
			}
			others := strange(l, ref)
			for c := range calls {
				if c != callLook {
					others.failingAll(c, e)
				}
			}
			for _, n := range l {
				finds(t, "other calls that tell an error", others, n.Names, api.OK)
			}
			finds(t, "other calls that tell an error", others, named("a/b"), api.ErrNotDir)
			finds(t, "other calls that tell an error", others, named("d/x"), api.ErrNone)
		}
	}
}

// TestFindGoesNoFurther: behind what is no directory nothing is looked for, whatever Look would tell.
func TestFindGoesNoFurther(t *testing.T) {
	l := canon(t, "a world", world())
	s := strange(l, func(i int) int { return i })
	for _, n := range l {
		if n.Kind != api.Dir {
			s.failing(callLook, n.Ino-1, api.ErrIO)
		}
	}
	for _, n := range l {
		if n.Kind != api.Dir {
			finds(t, "a Look of what is no directory", s, append(slices.Clone(n.Names), "x"), api.ErrNotDir)
		}
	}
}
