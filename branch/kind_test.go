package branch_test

import (
	"fmt"
	"math"
	"slices"
	"testing"

	"lamella/api"
	"lamella/branch"
	"lamella/image"
	"lamella/mount"
	"lamella/upper"
)

// P18.3: Kind, Upper, Opaque.

// others are branches of neither kind.
func others(t *testing.T) map[string]image.Branch {
	u, m := filled(t, "a world", world()), opened(t, "a file", rooted(file("a", "")))
	var none *stranger
	return map[string]image.Branch{
		"nil": nil, "a stranger": stranger{}, "the address of a stranger": &stranger{}, "no stranger": none, "an upper branch in something": wrapped{u}, "the address of that": &wrapped{u},
		"nothing in something": wrapped{}, "an image in something": imageWithin{m}, "a branch in something": branchWithin{u}, "an image in it": &branchWithin{m},
	}
}

// stranger is a branch that has nothing; it may not be asked for anything.
type stranger struct{ image.Branch }

// imageWithin has all that an image has, but is none.
type imageWithin struct{ *mount.Image }

// branchWithin has all that some branch has.
type branchWithin struct{ image.Branch }

func kindIs(t *testing.T, what string, b image.Branch, want int) {
	t.Helper()
	if got := branch.Kind(b); got != want {
		t.Errorf("%s: Kind %d, wanted %d", what, got, want)
	}
}

func upperIs(t *testing.T, what string, b image.Branch, want *upper.Upper, isOne bool) {
	t.Helper()
	if got, ok := branch.Upper(b); got != want || ok != isOne {
		t.Errorf("%s: Upper %p, %v; wanted %p, %v", what, got, ok, want, isOne)
	}
}

// someRefs are what may be one's ref, and what is none's.
func someRefs() []int {
	l := []int{math.MinInt, math.MinInt + 1, -1 << 32, 1 << 32, 1<<32 + 1, math.MaxInt - 1, math.MaxInt}
	for ref := -5; ref < 40; ref++ {
		l = append(l, ref)
	}
	return l
}

// opaqueAre are the refs of someRefs that are to be told as Opaque.
func opaqueAre(t *testing.T, what string, b image.Branch, want ...int) {
	t.Helper()
	for _, ref := range someRefs() {
		if got := branch.Opaque(b, ref); got != slices.Contains(want, ref) {
			t.Errorf("%s: Opaque of %d: %v", what, ref, got)
		}
	}
}

func TestKindExamples(t *testing.T) {
	kindIs(t, "nil", nil, 0)
	kindIs(t, "an upper branch", upper.New(much), 2)
}

func TestOfNeitherKind(t *testing.T) {
	for what, b := range others(t) {
		kindIs(t, what, b, 0)
		upperIs(t, what, b, nil, false)
		opaqueAre(t, what, b)
	}
}

func TestOfImages(t *testing.T) {
	for what, l := range plainTrees() {
		m := opened(t, what, l)
		kindIs(t, what, m, 1)
		upperIs(t, what, m, nil, false)
		opaqueAre(t, what, m)
		if branch.Opaque(m, m.Root()) {
			t.Errorf("%s: an image's root is told as Opaque", what)
		}
	}
	var none *mount.Image
	kindIs(t, "an image that is nil", none, 1)
	upperIs(t, "an image that is nil", none, nil, false)
	opaqueAre(t, "an image that is nil", none)
}

func TestOfUpperBranches(t *testing.T) {
	for what, l := range trees() {
		u := filled(t, what, l)
		var want []int
		for _, n := range canonical(l) {
			if n.Opaque {
				want = append(want, n.Ino) // those that are filled have the Inos as their refs
			}
		}
		for kind, b := range map[string]*upper.Upper{"filled": u, "its clone": u.Clone(), "made by calls": made(t, what, much, l)} {
			kindIs(t, what+", "+kind, b, 2)
			upperIs(t, what+", "+kind, b, b, true)
			opaqueAre(t, what+", "+kind, b, want...)
		}
	}
	for what, u := range map[string]*upper.Upper{"a zero value": {}, "a clone of one": (&upper.Upper{}).Clone()} {
		kindIs(t, what, u, 2)
		upperIs(t, what, u, u, true)
		opaqueAre(t, what, u)
	}
}

// TestOfANilUpper: it is of the kind of upper branches, by its type; it has no nodes.
func TestOfANilUpper(t *testing.T) {
	var none *upper.Upper
	kindIs(t, "an upper branch that is nil", none, 2)
	upperIs(t, "an upper branch that is nil", none, nil, true)
	opaqueAre(t, "an upper branch that is nil", none)
}

// TestUpperIsTheBranch: what is done of what Upper tells is done of the branch.
func TestUpperIsTheBranch(t *testing.T) {
	var b image.Branch = upper.New(much)
	u, _ := branch.Upper(b)
	ref, e := u.Make(1, "d", dir(""))
	holds(t, "Make", e)
	holds(t, "SetOpaque", u.SetOpaque(ref, true))
	if x, e := b.Look(1, "d"); x != (api.Entry{Name: "d", Kind: api.Dir, Ref: 2}) || e != api.OK || !branch.Opaque(b, 2) {
		t.Errorf("Look: %+v, error %d; Opaque %v", x, e, branch.Opaque(b, 2))
	}
}

// TestOpaque: behind each call that changes what is Opaque, or what is there.
func TestOpaque(t *testing.T) {
	u := upper.New(much)
	opaqueAre(t, "a new branch", u)
	for i, x := range []struct {
		call func() api.Errno
		want []int
	}{
		{func() api.Errno { _, e := u.Make(1, "d", opaque(dir(""))); return e }, nil}, // what is made is not Opaque
		{func() api.Errno { return u.SetOpaque(2, true) }, []int{2}},
		{func() api.Errno { _, e := u.Make(2, "f", file("", "")); return e }, []int{2}},
		{func() api.Errno { _, e := u.Make(2, "w", white("")); return e }, []int{2}},
		{func() api.Errno { _, e := u.Make(1, "l", link("", "t")); return e }, []int{2}},
		{func() api.Errno { return u.SetOpaque(1, true) }, []int{1, 2}},
		{func() api.Errno { _, e := u.Make(2, "e", dir("")); return e }, []int{1, 2}},
		{func() api.Errno { return u.SetOpaque(6, true) }, []int{1, 2, 6}},
		{func() api.Errno { return u.SetOpaque(2, true) }, []int{1, 2, 6}},
		{func() api.Errno { return u.Move(2, "e", 1, "e") }, []int{1, 2, 6}},
		{func() api.Errno { return u.SetOpaque(2, false) }, []int{1, 6}},
		{func() api.Errno { return u.Remove(1, "e") }, []int{1}},
		{func() api.Errno { _, e := u.Make(1, "e", dir("")); return e }, []int{1}},
		{func() api.Errno { return u.SetOpaque(7, true) }, []int{1, 7}},
		{func() api.Errno { return u.SetOpaque(1, false) }, []int{7}},
	} {
		holds(t, fmt.Sprint("call ", i), x.call())
		opaqueAre(t, fmt.Sprint("behind call ", i), u, x.want...)
	}
}
