package look_test

import (
	"fmt"
	"testing"

	"lamella/api"
	"lamella/image"
	"lamella/look"
	"lamella/mount"
	"lamella/upper"
)

// New: a stack of an upper branch above images.

func images(t *testing.T, layers ...string) []*mount.Image {
	t.Helper()
	var l []*mount.Image
	for i, words := range layers {
		l = append(l, opened(t, lay(i+1, words)))
	}
	return l
}

// isOf is a stack of just these branches, in this order.
func isOf(t *testing.T, what string, s *look.Stack, u *upper.Upper, low []*mount.Image) {
	t.Helper()
	if s == nil || s.Up != u || len(s.Low) != len(low) {
		t.Fatalf("%s: the stack is %+v", what, s)
	}
	for i, m := range low {
		if s.Low[i] != image.Branch(m) {
			t.Errorf("%s: layer %d is another branch", what, i+1)
		}
	}
	agrees(t, what, s)
}

func TestNew(t *testing.T) {
	low := images(t, "a", "b d/ d/x", "a b c", "d/ d/y", "e", "f", "g", "h")
	for _, up := range []string{"", "!", "a- d/ d/z", "! d/", "d!"} {
		for n := range len(low) + 1 {
			u := filled(t, lay(0, up))
			isOf(t, fmt.Sprintf("%q above %d images", up, n), look.New(u, low[:n]), u, low[:n])
		}
	}
	u := upper.New(api.Quota{})
	isOf(t, "a new branch above nil", look.New(u, nil), u, nil)
	isOf(t, "a new branch above one image three times", look.New(u, []*mount.Image{low[2], low[2], low[2]}), u, []*mount.Image{low[2], low[2], low[2]})
}

// TestNewOfNoImages: what is there is the upper branch's.
func TestNewOfNoImages(t *testing.T) {
	s := look.New(upper.New(api.Quota{}), nil)
	listIs(t, s, "", "")
	spotsAre(t, s, "", "0")
	statIs(t, s, "", api.Stat{Kind: api.Dir, Attr: api.Attr{Mode: 493}, Links: 1})
	s = look.New(filled(t, lay(3, "! a w- d/ d/f d!")[:5]), []*mount.Image{})
	listIs(t, s, "", "a d/")
	spotsAre(t, s, "d/f", "0")
	spotsAre(t, s, "w", "none")
}

// TestNewKeepsNoList: the caller's list is neither kept nor changed, nor the room behind its end.
func TestNewKeepsNoList(t *testing.T) {
	low := images(t, "a", "b", "c")
	list := append([]*mount.Image(nil), low...)
	s := look.New(upper.New(api.Quota{}), list[:2])
	s.Low = append(s.Low, low[0])
	if list[0] != low[0] || list[1] != low[1] || list[2] != low[2] {
		t.Error("the list has changed")
	}
	list[0], list[1] = low[2], low[2]
	listIs(t, s, "", "a b")
	spotsAre(t, s, "", "0 1 2 3")
}

// TestTheUpperBranchIsTheCallers: a change of it is seen, at once; one of its clone is not.
func TestTheUpperBranchIsTheCallers(t *testing.T) {
	u := upper.New(much)
	low := images(t, "a d/ d/f", "b d/ d/g")
	s, other := look.New(u, low), look.New(u, low[:1])
	apart := look.New(u.Clone(), low)
	before := all(t, apart)
	holds := func(e api.Errno) {
		t.Helper()
		if e != api.OK {
			t.Fatalf("error %d", e)
		}
	}
	making := func(dir int, name string, kind int) {
		t.Helper()
		_, e := u.Make(dir, name, api.Node{Kind: kind, Target: map[int]string{api.Link: "to"}[kind]})
		holds(e)
	}
	for i, x := range []struct {
		call       func()
		root, d, f string
	}{
		{func() {}, "a b d/", "f g", "1"},
		{func() { making(1, "w", api.File) }, "a b d/ w", "f g", "1"},            // 2
		{func() { making(1, "a", api.White) }, "b d/ w", "f g", "1"},             // 3
		{func() { making(1, "d", api.Dir) }, "b d/ w", "f g", "1"},               // 4
		{func() { making(4, "f", api.Link) }, "b d/ w", "f@ g", "0"},             // 5
		{func() { making(4, "g", api.White) }, "b d/ w", "f@", "0"},              // 6
		{func() { holds(u.SetOpaque(4, true)) }, "b d/ w", "f@", "0"},            //
		{func() { holds(u.Remove(4, "f")) }, "b d/ w", "", "none"},               //
		{func() { holds(u.SetOpaque(4, false)) }, "b d/ w", "f", "1"},            //
		{func() { holds(u.Remove(4, "g")) }, "b d/ w", "f g", "1"},               //
		{func() { holds(u.SetOpaque(1, true)) }, "d/ w", "", "none"},             //
		{func() { holds(u.Move(1, "w", 4, "f")) }, "d/", "f", "0"},               //
		{func() { holds(u.SetOpaque(1, false)) }, "b d/", "f g", "0"},            //
		{func() { holds(u.Link(1, "b", 2)) }, "b d/", "f g", "0"},                //
		{func() { holds(u.Remove(1, "a")) }, "a b d/", "f g", "0"},               //
		{func() { holds(u.Move(1, "d", 1, "a")) }, "a/ b d/", "f g", "1"},        //
		{func() { holds(u.Remove(4, "f")) }, "a/ b d/", "f g", "1"},              //
		{func() { holds(u.Remove(1, "a")) }, "a b d/", "f g", "1"},               //
		{func() { holds(u.Write(2, 0, []byte("bytes"))) }, "a b d/", "f g", "1"}, //
	} {
		x.call()
		listIs(t, s, "", x.root)
		listIs(t, s, "d", x.d)
		spotsAre(t, s, "d/f", x.f)
		agrees(t, fmt.Sprintf("behind call %d", i), s)
		agrees(t, fmt.Sprintf("another stack of it, behind call %d", i), other)
	}
	readIs(t, s, "b", 0, 9, "bytes", api.OK)
	if got := all(t, apart); got != before {
		t.Errorf("a clone's stack tells\n%s\nand told\n%s", got, before)
	}
}
