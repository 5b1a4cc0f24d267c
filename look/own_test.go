package look_test

import (
	"fmt"
	"math"
	"slices"
	"strings"
	"testing"

	"lamella/api"
	"lamella/branch"
	"lamella/build"
	"lamella/look"
	"lamella/mount"
	"lamella/upper"
)

// R6, R7: what is handed in, what is kept, and what is answered.

// all is what every call tells of a stack, as text.
func all(t *testing.T, s *look.Stack) string {
	t.Helper()
	var out strings.Builder
	for _, names := range modelOf(s).all {
		for _, names := range [][]string{names, slices.Concat(names, []string{"none"})} {
			fmt.Fprintf(&out, "%q Behind %t", names, s.Behind(names))
			for _, told := range told(s, names) {
				fmt.Fprintf(&out, " %s", told)
			}
			out.WriteByte('\n')
		}
	}
	l, e := s.Tree()
	fmt.Fprintf(&out, "Tree: error %d\n%s", e, text(l))
	return out.String()
}

// told is what each call but Behind and Tree tells of names, as text.
func told(s *look.Stack, names []string) []string {
	spots, e0 := s.Spots(names)
	stat, e1 := s.Stat(names)
	list, e2 := s.List(names)
	data, e3 := s.Read(names, 0, math.MaxInt)
	target, e4 := s.Target(names)
	xattrs, e5 := s.Xattrs(names)
	return []string{
		fmt.Sprint("Spots ", spots, e0), fmt.Sprint("Stat ", stat, e1), fmt.Sprint("List ", list, e2),
		fmt.Sprintf("Read %x %d", data, e3), fmt.Sprintf("Target %q %d", target, e4), fmt.Sprintf("Xattrs %q %d", xattrs, e5),
	}
}

// layersTell is the trees of all layers, and what the upper branch takes, as text.
func layersTell(s *look.Stack) string { return shows(s) + fmt.Sprint(s.Up.Used()) }

// roomy is a copy of a list with spare room that is not empty.
func roomy[T any](l []T, spare T) []T {
	out := slices.Concat(l, slices.Repeat([]T{spare}, 5))
	return out[:len(l)]
}

func fill[T any](l []T, x T) {
	l = l[:cap(l)]
	for i := range l {
		l[i] = x
	}
}

// overwrite makes all that is told of names other, its spare room too.
func overwrite(s *look.Stack, names []string) {
	spots, _ := s.Spots(names)
	fill(spots, look.Spot{Layer: -1, Ref: -1})
	list, _ := s.List(names)
	fill(list, api.Entry{Name: "over", Kind: api.White})
	data, _ := s.Read(names, 0, math.MaxInt)
	fill(data, 0xdd)
	overwriteXattrs(s.Xattrs(names))
}

func overwriteXattrs(l []api.Xattr, _ api.Errno) {
	for _, x := range l {
		fill(x.Value, 0xdd)
	}
	fill(l, api.Xattr{Name: "over"})
}

func overwriteNodes(l []api.Node, _ api.Errno) {
	for _, n := range l {
		fill(n.Names, "over")
		fill(n.Data, 0xdd)
		overwriteXattrs(n.Xattrs, api.OK)
	}
	fill(l, api.Node{Kind: api.White})
}

// TestAnswersAreTheCallersOwn: each answer is written over, and put something behind; what is told later is what was told ahead, and the layers stay.
func TestAnswersAreTheCallersOwn(t *testing.T) {
	for seed := range 60 {
		s := anyStack(t, seed)
		names := modelOf(s).all
		want, layers := all(t, s), layersTell(s)
		for _, n := range names {
			overwrite(s, n)
		}
		overwriteNodes(s.Tree())
		if got := layersTell(s); got != layers {
			t.Fatalf("stack %d: the layers are\n%s\nand were\n%s", seed, got, layers)
		}
		if got := all(t, s); got != want {
			t.Fatalf("stack %d: told is\n%s\nand was\n%s", seed, got, want)
		}
	}
}

// TestAnswersShareNothing: of two answers one is written over, the other one stays.
func TestAnswersShareNothing(t *testing.T) {
	s := stackOf(t, []api.Node{
		{Ino: 1, Kind: api.Dir, Xattrs: []api.Xattr{{Name: "a", Value: []byte("v")}, {Name: "b", Value: []byte("w")}}},
		{Names: []string{"f"}, Ino: 2, Kind: api.File, Data: []byte("data")},
	}, lay(1, "f g d/ d/x"))
	for _, path := range []string{"", "f", "g", "d", "d/x"} {
		names := named(path)
		first := told(s, names)
		spots, _ := s.Spots(names)
		list, _ := s.List(names)
		data, _ := s.Read(names, 0, 99)
		xattrs, _ := s.Xattrs(names)
		overwrite(s, names)
		want := fmt.Sprintf("%v %v %x %q", spots, list, data, xattrs)
		overwrite(s, names)
		if got := fmt.Sprintf("%v %v %x %q", spots, list, data, xattrs); got != want {
			t.Errorf("what is told of %q was %s, and is %s", path, want, got)
		}
		for i := range xattrs {
			_ = append(xattrs[i].Value, 1, 2, 3)
			fill(xattrs[i].Value, 0xdd)
			for k, x := range xattrs[i+1:] {
				if string(x.Value) != "w" {
					t.Errorf("values %d and %d of %q share something", i, i+1+k, path)
				}
			}
		}
		if again := told(s, names); !slices.Equal(again, first) {
			t.Errorf("told of %q is %q, and was %q", path, again, first)
		}
	}
}

// TestNamesStay: names that are handed in are neither changed nor kept, nor the room behind their end.
func TestNamesStay(t *testing.T) {
	for seed := range 40 {
		s := anyStack(t, seed)
		want := all(t, s)
		for _, names := range modelOf(s).all {
			names = roomy(names, "spare")
			before := slices.Clone(names[:cap(names)])
			first := told(s, names)
			s.Behind(names)
			if !slices.Equal(names[:cap(names)], before) {
				t.Fatalf("stack %d: the names %q are %q", seed, before, names[:cap(names)])
			}
			other := slices.Clone(names)
			fill(names, "over")
			if again := told(s, other); !slices.Equal(again, first) {
				t.Fatalf("stack %d: told of %q is %q, and was %q", seed, other, again, first)
			}
		}
		if got := all(t, s); got != want {
			t.Fatalf("stack %d: told is\n%s\nand was\n%s", seed, got, want)
		}
	}
}

// TestTheStackStays: no call changes what is in it.
func TestTheStackStays(t *testing.T) {
	for seed := range 40 {
		s := anyStack(t, seed)
		s.Low = roomy(s.Low, nil)
		was, low, layers := *s, slices.Clone(s.Low[:cap(s.Low)]), layersTell(s)
		first, second := all(t, s), all(t, s)
		if first != second || s.Up != was.Up || len(s.Low) != len(was.Low) || !slices.Equal(s.Low[:cap(s.Low)], low) || layersTell(s) != layers {
			t.Fatalf("stack %d: it has changed", seed)
		}
	}
}

// TestImagesStay: what is told is still told as the bytes are written over that were mounted, and what is built of their trees is the same.
func TestImagesStay(t *testing.T) {
	trees := [][]api.Node{lay(1, "a d/ d/x=1 e=1"), lay(2, "a b@ d/ d/y")}
	var low []*mount.Image
	var images [][]byte
	for _, l := range trees {
		b, e := build.Build(l)
		if e != api.OK {
			t.Fatalf("Build: error %d", e)
		}
		m, e := mount.Mount(b)
		if e != api.OK {
			t.Fatalf("Mount: error %d", e)
		}
		images, low = append(images, slices.Clone(b)), append(low, m)
		fill(b, 0xdd)
	}
	s := look.New(upper.New(much), low)
	for range 2 {
		listIs(t, s, "", "a b@ d/ e")
		readIs(t, s, "d/y", 0, 99, "d/y of 2", api.OK)
		agrees(t, "images that were written over", s)
		for i, m := range low {
			l, e := branch.Tree(m)
			if b, wrong := build.Build(l); !slices.Equal(b, images[i]) || e != api.OK || wrong != api.OK {
				t.Errorf("image %d is another one: errors %d, %d", i, e, wrong)
			}
		}
		s.Up.Make(1, "w", api.Node{Kind: api.White})
	}
}

// TestStacksOfTheSame: two stacks of the same branches tell the same, and neither changes what the other tells.
func TestStacksOfTheSame(t *testing.T) {
	for seed := range 30 {
		s := anyStack(t, seed)
		other := &look.Stack{Up: s.Up, Low: slices.Clone(s.Low)}
		want := all(t, s)
		if all(t, other) != want || all(t, s) != want {
			t.Fatalf("stack %d: another stack of the same tells something else", seed)
		}
	}
}
