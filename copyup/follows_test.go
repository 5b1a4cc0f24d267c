package copyup_test

import (
	"fmt"
	"math"
	"slices"
	"strings"
	"testing"

	"lamella/api"
	"lamella/branch"
	"lamella/copyup"
	"lamella/look"
)

// P21.3: what Up changes of what is told.

// allNames is all names of all layers, rising, and others behind each.
func allNames(s *look.Stack) [][]string {
	var l [][]string
	for _, b := range layersOf(s) {
		l = append(l, namesOf(b, b.Root(), nil)...)
	}
	for _, names := range l {
		l = append(l, slices.Concat(names, []string{"none"}))
	}
	slices.SortFunc(l, slices.Compare[[]string])
	return slices.CompactFunc(l, slices.Equal)
}

func namesOf(b lister, ref int, names []string) [][]string {
	l := [][]string{names}
	entries, _ := b.List(ref)
	for _, x := range entries {
		l = append(l, namesOf(b, x.Ref, slices.Concat(names, []string{x.Name}))...)
	}
	return l
}

type lister interface {
	List(ref int) ([]api.Entry, api.Errno)
}

// seen is all that is told of all names, and of the whole, but for how many links a file has. (Where something is, Spots tells: that is not what is told of it.)
func seen(s *look.Stack) string {
	var out strings.Builder
	for _, names := range allNames(s) {
		_, e := s.Spots(names)
		fmt.Fprintf(&out, "%q: error %d, Behind %t\n", names, e, s.Behind(names))
		if e == api.OK {
			out.WriteString(toldOf(s, names))
		}
	}
	l, e := s.Tree()
	for i := range l {
		l[i].Ino = 0 // of files that are one here, and not there
	}
	fmt.Fprintf(&out, "Tree: error %d\n%s", e, text(l))
	return out.String()
}

// toldOf is what is told of names, but for links.
func toldOf(s *look.Stack, names []string) string {
	stat, e1 := s.Stat(names)
	if stat.Kind != api.Dir {
		stat.Links = 0
	}
	list, e2 := s.List(names)
	b, e3 := s.Read(names, 0, math.MaxInt)
	target, e4 := s.Target(names)
	xattrs, e5 := s.Xattrs(names)
	return fmt.Sprintf("  %+v %d, %v %d, %x %d, %q %d, %q %d\n", stat, e1, list, e2, b, e3, target, e4, xattrs, e5)
}

// links is how many each of the names has; 0 of none.
func links(s *look.Stack, all [][]string) []int {
	var l []int
	for _, names := range all {
		stat, _ := s.Stat(names)
		l = append(l, stat.Links)
	}
	return l
}

// upChangesNothing asks for an Up, and holds what is told ahead of it against what is told behind.
func upChangesNothing(t *testing.T, what string, s *look.Stack, names []string, before string, all [][]string) {
	t.Helper()
	want := links(s, all)
	if spots, e := s.Spots(names); e == api.OK && spots[0].Layer > 0 {
		want[slices.IndexFunc(all, func(n []string) bool { return slices.Equal(n, names) })] = 1
	}
	copyup.Up(s, names)
	if after := seen(s); after != before {
		t.Fatalf("%s: Up of %q: told is\n%s\nand was\n%s\n%s", what, names, after, before, shows(s))
	}
	if got := links(s, all); !slices.Equal(got, want) {
		t.Fatalf("%s: Up of %q: of %q the links are %d, wanted %d\n%s", what, names, all, got, want, shows(s))
	}
}

// TestUpIsNotSeen: by all names, of all rows of few layers.
func TestUpIsNotSeen(t *testing.T) {
	rows(fewNodes(), 2, func(row []string) {
		first := stacked(t, row...)
		before, all := seen(first), allNames(first)
		for _, names := range all {
			upChangesNothing(t, fmt.Sprintf("%q", row), cloned(first), names, before, all)
		}
	})
	few := []string{"", "d", "d/", "d-", "d! d/x", "d/ d/x/ d/x/y=1 d/z=1 z=1"}
	rows(few, 3, func(row []string) {
		first := stacked(t, row...)
		before, all := seen(first), allNames(first)
		for _, names := range all {
			upChangesNothing(t, fmt.Sprintf("%q", row), cloned(first), names, before, all)
		}
	})
}

// TestUpsAreNotSeen: of all names of any stacks, one behind the other, the deepest last and the deepest first.
func TestUpsAreNotSeen(t *testing.T) {
	made := 0
	for seed := range 24 {
		first := anyStack(t, seed)
		before, all := seen(first), allNames(first)
		for _, order := range []func(l [][]string){func(l [][]string) {}, slices.Reverse[[][]string]} {
			s, l := cloned(first), slices.Clone(all)
			order(l)
			nodes := s.Up.Used().Nodes
			for i, names := range l {
				if i%16 > 0 {
					copyup.Up(s, names)
				} else {
					upChangesNothing(t, fmt.Sprint("stack ", seed), s, names, before, all)
				}
			}
			made += s.Up.Used().Nodes - nodes
			allIsAbove(t, s)
		}
	}
	if made < 300 {
		t.Errorf("%d nodes were made", made)
	}
}

// allIsAbove: the upper branch alone has all that is told.
func allIsAbove(t *testing.T, s *look.Stack) {
	t.Helper()
	l, e := s.Tree()
	for _, n := range l {
		spots, _ := s.Spots(n.Names)
		if spots[0].Layer != 0 || e != api.OK {
			t.Fatalf("%q is not above\n%s", n.Names, shows(s))
		}
	}
	alone := &look.Stack{Up: s.Up}
	above, e := alone.Tree()
	if !sameNodes(above, l) || e != api.OK {
		t.Fatalf("above is\n%s\nand told is\n%s", text(above), text(l))
	}
}

// TestMarkIsSeenOfItsNames alone, and of what is below: all else is told as it was, but that the directory ahead has one entry less.
func TestMarkIsSeenOfItsNames(t *testing.T) {
	for seed := range 24 {
		first := anyStack(t, seed)
		told := seen(first)
		before, e := first.Tree()
		if e != api.OK {
			t.Fatalf("Tree: error %d", e)
		}
		for _, n := range before {
			if spots, _ := first.Spots(n.Names); spots[0].Layer == 0 {
				continue
			}
			s := cloned(first)
			marked := copyup.Mark(s, n.Names)
			hidden := func(other api.Node) bool {
				return len(other.Names) >= len(n.Names) && slices.Equal(other.Names[:len(n.Names)], n.Names)
			}
			want := numbered(slices.DeleteFunc(slices.Clone(before), hidden))
			if after, e := s.Tree(); !sameNodes(after, want) || marked != api.OK || e != api.OK {
				t.Fatalf("stack %d: Mark of %q: errors %d, %d\n%s\nwanted\n%s", seed, n.Names, marked, e, text(after), text(want))
			}
			behind := first.Behind(n.Names)
			if s.Behind(n.Names) != behind || !behind {
				t.Fatalf("stack %d: Mark of %q: behind is %t, and was %t", seed, n.Names, s.Behind(n.Names), behind)
			}
			was, e := copyup.Clear(s, n.Names)
			if after := seen(s); !was || e != api.OK || after != told {
				t.Fatalf("stack %d: Clear of %q: %t, error %d\n%s\nwanted\n%s", seed, n.Names, was, e, after, told)
			}
		}
	}
}

// TestFilledWithWhatWasLaidDown: an upper branch that is filled with the tree of this one shows the same.
func TestFilledWithWhatWasLaidDown(t *testing.T) {
	for seed := range 40 {
		s := anyStack(t, seed)
		c := chance(seed)
		all := allNames(s)
		for range 10 {
			copyup.Up(s, pick(&c, all...))
			if names := pick(&c, all...); len(names) > 0 {
				copyup.Mark(s, names)
			}
		}
		l := above(t, s)
		if e := branch.Check(l); e != api.OK {
			t.Fatalf("Check: error %d\n%s", e, text(l))
		}
		again := &look.Stack{Up: filled(t, l), Low: s.Low}
		if got, want := seen(again), seen(s); got != want || again.Up.Used() != s.Up.Used() {
			t.Fatalf("stack %d: told is\n%s\nand was\n%s", seed, got, want)
		}
	}
}
