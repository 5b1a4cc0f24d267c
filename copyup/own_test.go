package copyup_test

import (
	"fmt"
	"math"
	"slices"
	"testing"

	"lamella/api"
	"lamella/branch"
	"lamella/build"
	"lamella/copyup"
	"lamella/image"
	"lamella/look"
	"lamella/mount"
	"lamella/upper"
)

// R6, R7: what is handed in, what is laid down, and what hangs on what.

// roomy is a copy of a list with spare room that is not empty.
func roomy[T any](l []T, spare T) []T {
	out := slices.Concat(l, slices.Repeat([]T{spare}, 5))
	return out[:len(l)]
}

func fill[T any](l []T, x T) {
	l = l[:cap(l)]
	for i := range l {
		l[i] = x
	}
}

func overwriteXattrs(l []api.Xattr, _ api.Errno) {
	for _, x := range l {
		fill(x.Value, 0xdd)
	}
	fill(l, api.Xattr{Name: "over"})
}

// overwrite makes all that a branch tells of a ref other, its spare room too.
func overwrite(b image.Branch, ref int) {
	list, _ := b.List(ref)
	fill(list, api.Entry{Name: "over", Kind: api.White})
	data, _ := b.Read(ref, 0, math.MaxInt)
	fill(data, 0xdd)
	overwriteXattrs(b.Xattrs(ref))
}

// TestAnswersWrittenOver: what is told of what was laid down, and of what it was laid down from, is written over: neither changes.
func TestAnswersWrittenOver(t *testing.T) {
	for seed := range 30 {
		s := anyStack(t, seed)
		all := allNames(s)
		for _, names := range all {
			copyup.Up(s, names)
		}
		want, layers := seen(s), shows(s)
		for _, names := range all {
			for _, b := range layersOf(s) {
				if ref, e := image.Find(b, names); e == api.OK {
					overwrite(b, ref)
				}
			}
		}
		if got := shows(s); got != layers {
			t.Fatalf("stack %d: the layers are\n%s\nand were\n%s", seed, got, layers)
		}
		if got := seen(s); got != want {
			t.Fatalf("stack %d: told is\n%s\nand was\n%s", seed, got, want)
		}
	}
}

// TestImagesStay: what was laid down is changed in each way; the other layers tell what they told.
func TestImagesStay(t *testing.T) {
	for seed := range 30 {
		s := anyStack(t, seed)
		var low []string
		for _, b := range s.Low {
			l, _ := branch.Tree(b)
			low = append(low, text(l))
		}
		for _, names := range allNames(s) {
			ref, e := copyup.Up(s, names)
			if e != api.OK {
				continue
			}
			s.Up.Write(ref, 0, []byte("over"))
			s.Up.Resize(ref, 7)
			s.Up.SetAttr(ref, api.Attr{Mode: 1})
			s.Up.SetXattrs(ref, []api.Xattr{{Name: "over", Value: []byte("over")}})
			s.Up.SetOpaque(ref, true)
		}
		for i, b := range s.Low {
			if l, _ := branch.Tree(b); text(l) != low[i] {
				t.Fatalf("stack %d: layer %d is\n%s\nand was\n%s", seed, i+1, text(l), low[i])
			}
		}
	}
}

// TestImagesWrittenOver: the bytes that were mounted are written over, and what is built of the images' trees is the same.
func TestImagesWrittenOver(t *testing.T) {
	l := files()
	whole := built(t, l)
	b := slices.Clone(whole)
	m, e := mount.Mount(b)
	if e != api.OK {
		t.Fatalf("Mount: error %d", e)
	}
	s := look.New(upper.New(much), []*mount.Image{m})
	up(t, s, "a", "/493 a1")
	fill(b, 0xdd)
	up(t, s, "d/f", "/493 a1 d/1 d/f1")
	mark(t, s, "c", "/493 a1 c- d/1 d/f1")
	readIs(t, s, "a", string(l[1].Data))
	readIs(t, s, "d/f", string(l[6].Data))
	if nodes, e := image.Tree(m); !slices.Equal(built(t, nodes), whole) || e != api.OK {
		t.Errorf("the image is another one, error %d", e)
	}
}

// TestWhatABranchKeeps: one hands out what it keeps; what is laid down of that is another thing.
func TestWhatABranchKeeps(t *testing.T) {
	l := lay(1, "f")
	l[1].Xattrs = []api.Xattr{{Name: "a", Value: []byte("v")}}
	low := &strange{Branch: opened(t, l)}
	s := &look.Stack{Up: upper.New(much), Low: []image.Branch{low}}
	ref := up(t, s, "f", "/493 f1")
	s.Up.Write(ref, 0, []byte("over"))
	if string(low.bytes) != "f of 1" || low.attrs[0].Name != "a" || string(low.attrs[0].Value) != "v" {
		t.Errorf("the branch keeps %q, %q", low.bytes, low.attrs)
	}
	fill(low.bytes, 0xdd)
	overwriteXattrs(low.attrs, api.OK)
	readIs(t, s, "f", "over 1")
	if x, e := s.Xattrs(named("f")); !sameXattrs(x, l[1].Xattrs) || e != api.OK {
		t.Errorf("%q, error %d", x, e)
	}
}

// TestNamesStay: names that are handed in are neither changed nor kept, nor the room behind their end.
func TestNamesStay(t *testing.T) {
	for seed := range 12 {
		first := anyStack(t, seed)
		for _, names := range allNames(first) {
			for _, c := range []call{{"Up", names}, {"Mark", names}, {"Clear", names}} {
				if c.what == "Mark" && len(names) == 0 {
					continue
				}
				s, m := cloned(first), modelOf(t, first)
				c.names = roomy(names, "spare")
				before := slices.Clone(c.names[:cap(c.names)])
				c.agrees(t, fmt.Sprint("stack ", seed), s, m)
				if !slices.Equal(c.names[:cap(c.names)], before) {
					t.Fatalf("stack %d: %s: the names %q are %q", seed, c.what, before, c.names[:cap(c.names)])
				}
				want := text(above(t, s))
				fill(c.names, "over")
				if got := text(above(t, s)); got != want {
					t.Fatalf("stack %d: %s of %q: above is\n%s\nand was\n%s", seed, c.what, names, got, want)
				}
			}
		}
	}
}

// TestTheStackStays: it has the same upper branch and the same others, and the spare room behind these is what it was.
func TestTheStackStays(t *testing.T) {
	for seed := range 30 {
		s := anyStack(t, seed)
		s.Low = roomy(s.Low, nil)
		was, low := *s, slices.Clone(s.Low[:cap(s.Low)])
		for _, names := range allNames(s) {
			copyup.Up(s, names)
			if len(names) > 0 {
				copyup.Mark(s, names)
			}
			copyup.Clear(s, names)
		}
		if s.Up != was.Up || len(s.Low) != len(was.Low) || !slices.Equal(s.Low[:cap(s.Low)], low) {
			t.Fatalf("stack %d: it has changed", seed)
		}
	}
}

// TestTheSameCalls: of the same trees, in other stacks, have the same answers, refs too; and a clone is not changed by what is laid down in its like.
func TestTheSameCalls(t *testing.T) {
	for seed := range 30 {
		first := anyStack(t, seed)
		before, used := text(above(t, first)), first.Up.Used()
		one, two, three := cloned(first), cloned(first), anyStack(t, seed)
		c := chance(seed)
		all := allNames(first)
		for range 40 {
			names := pick(&c, all...)
			ref, e := copyup.Up(one, names)
			for _, s := range []*look.Stack{two, three} {
				if again, wrong := copyup.Up(s, names); again != ref || wrong != e {
					t.Fatalf("stack %d: Up of %q: %d, error %d, and %d, error %d", seed, names, ref, e, again, wrong)
				}
			}
		}
		if text(above(t, one)) != text(above(t, two)) || text(above(t, one)) != text(above(t, three)) {
			t.Fatalf("stack %d: the same calls leave something else", seed)
		}
		if text(above(t, first)) != before || first.Up.Used() != used {
			t.Fatalf("stack %d: the first branch has changed", seed)
		}
	}
}

// TestBuildOfWhatWasLaidDown: the tree of a stack of which all was laid down has the image that it had, as long as no file has two names.
func TestBuildOfWhatWasLaidDown(t *testing.T) {
	l := lay(1, "a b@ d/ d/e/ d/e/f d/g@ h/")
	s := look.New(filled(t, lay(1, "")), []*mount.Image{opened(t, l)})
	for _, n := range l {
		if _, e := copyup.Up(s, n.Names); e != api.OK {
			t.Errorf("Up of %q: error %d", n.Names, e)
		}
	}
	b, e := build.Build(above(t, s))
	if !slices.Equal(b, built(t, l)) || e != api.OK {
		t.Errorf("another image, error %d", e)
	}
}
