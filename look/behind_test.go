package look_test

import (
	"strings"
	"testing"

	"lamella/look"
)

// P20.3: Behind.

// behind asks a stack for paths: those of which something is behind the upper branch, and those of which nothing is.
func behind(t *testing.T, s *look.Stack, is, isNot string) {
	t.Helper()
	for _, path := range strings.Fields(is) {
		if !s.Behind(named(path)) {
			t.Errorf("nothing is behind %q\n%s", path, shows(s))
		}
	}
	for _, path := range strings.Fields(isNot) {
		if s.Behind(named(path)) {
			t.Errorf("something is behind %q\n%s", path, shows(s))
		}
	}
}

func TestBehindOfNoNames(t *testing.T) {
	for _, layers := range [][]string{{""}, {"", ""}, {"", "a", "b"}, {"!", "a"}, {"a/", "! a/ a/b"}} {
		if s := stacked(t, layers...); s.Behind(nil) || s.Behind([]string{}) {
			t.Errorf("%q: something is behind no names", layers)
		}
	}
}

// TestBehindOfTheUpperBranchAlone: names that it alone has, of a directory that it alone has, and all names, if there is no other layer.
func TestBehindOfTheUpperBranchAlone(t *testing.T) {
	behind(t, stacked(t, "a d/ d/x w- d/w-"), "", "a d d/x w d/w none d/none none/none a/x w/x")
	behind(t, stacked(t, "a d/ d/x d/e/ d/e/y w-", "b"), "b", "a d d/x d/none d/e d/e/y w")
	behind(t, stacked(t, "! d/", "d/ d/x a"), "", "d d/x a")
	behind(t, stacked(t, "d! d/x", "d/ d/x d/y"), "d", "d/x d/y")
}

// TestBehindOfAnImage: names that an image has, the first one or a further one, whatever the upper branch has there.
func TestBehindOfAnImage(t *testing.T) {
	s := stacked(t, "a b/ c@ w- d/ d/a d/w-", "a b c w d/ d/a d/x d/w e f/ f/x", "g d/ d/y f/ f/y h@")
	behind(t, s, "a b c w d d/a d/x d/w d/y e f f/x f/y g h", "none d/none f/none a/x b/x c/x w/x e/x g/x h/x d/a/x none/none f/x/y")
}

// TestBehindOfWhatIsHidden: a White, an Opaque directory or a file between hides what is below it, but not what has just its names.
func TestBehindOfWhatIsHidden(t *testing.T) {
	low := "d/ d/x d/e/ d/e/y"
	behind(t, stacked(t, "d-", low), "d", "d/x d/e d/e/y")
	behind(t, stacked(t, "d", low), "d", "d/x d/e d/e/y")
	behind(t, stacked(t, "d@", low), "d", "d/x d/e d/e/y")
	behind(t, stacked(t, "d!", low), "d", "d/x d/e d/e/y")
	behind(t, stacked(t, "d/ d/e!", low), "d d/x d/e", "d/e/y")
	behind(t, stacked(t, "d/ d/e- d/x-", low), "d d/x d/e", "d/e/y")
	for _, between := range []string{"d-", "d", "d@", "d!"} {
		behind(t, stacked(t, "", between, low), "d", "d/x d/e d/e/y")
		behind(t, stacked(t, "d/", between, low), "d", "d/x d/e d/e/y")
		behind(t, stacked(t, "d/ d/e/", between, low), "d", "d/x d/e d/e/y")
	}
	behind(t, stacked(t, "", "d/ d/e!", low), "d d/x d/e", "d/e/y")
	behind(t, stacked(t, "", "d/ d/e- d/x-", low), "d d/x d/e", "d/e/y")
	behind(t, stacked(t, "", "! a", low), "a", "d d/x d/e d/e/y")
}

// TestBehindOfAWhite: what is behind may be a mark alone.
func TestBehindOfAWhite(t *testing.T) {
	behind(t, stacked(t, "", "w- d/ d/w-"), "w d d/w", "w/x d/w/x")
	behind(t, stacked(t, "w d/ d/w/", "w- d/ d/w-"), "w d d/w", "d/w/x")
	behind(t, stacked(t, "", "", "", "w- d! d/w-"), "w d d/w", "none")
	behind(t, stacked(t, "w- d!", "w- d/ d/w-"), "w d", "d/w")
}
