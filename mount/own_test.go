package mount_test

import (
	"bytes"
	"fmt"
	"slices"
	"testing"

	"lamella/api"
	"lamella/mount"
)

// R2, R6, R7: what is handed in, what is kept, and what is answered.

// roomy is a copy of bytes with spare room that is not empty.
func roomy(b []byte) []byte {
	out := slices.Concat(b, bytes.Repeat([]byte{0xee}, 50))
	return out[:len(b)]
}

func overwrite(b []byte) {
	b = b[:cap(b)]
	for i := range b {
		b[i] = 0xdd
	}
}

// all is all that an image tells, as text.
func all(t *testing.T, what string, m *mount.Image) string {
	t.Helper()
	s := fmt.Sprintf("%d %+v", m.Root(), told(t, what, m))
	for _, n := range told(t, what, m) {
		stat, _ := m.Stat(n.Ino)
		list, _ := m.List(n.Ino)
		s += fmt.Sprintf("%+v %+v", stat, list)
	}
	return s
}

func TestWhatIsHandedInStays(t *testing.T) {
	for what, l := range trees() {
		b := roomy(built(t, what, l))
		before := slices.Clone(b[:cap(b)])
		m := mounted(t, what, b)
		all(t, what, m)
		if !bytes.Equal(b[:cap(b)], before) {
			t.Errorf("%s: the bytes, or their spare room, were changed", what)
		}
	}
	for n := range 100 {
		b := roomy(built(t, "owners", owners())[:n])
		before := slices.Clone(b[:cap(b)])
		mount.Mount(b)
		if !bytes.Equal(b[:cap(b)], before) {
			t.Errorf("%d bytes, or their spare room, were changed beside an error", n)
		}
	}
}

// TestNothingIsKept: what is written into the bytes behind Mount is not seen.
func TestNothingIsKept(t *testing.T) {
	for what, l := range trees() {
		b := roomy(built(t, what, l))
		want := all(t, what, mounted(t, what, slices.Clone(b)))
		m := mounted(t, what, b)
		overwrite(b)
		if all(t, what, m) != want {
			t.Errorf("%s: the image shares bytes with what was handed in", what)
		}
		tells(t, what, m, l)
	}
}

// TestAnswersAreTheCallersOwn: each answer is written over, its spare room too; what was handed in, and what is told then, stays.
func TestAnswersAreTheCallersOwn(t *testing.T) {
	for what, l := range trees() {
		b := roomy(built(t, what, l))
		before := slices.Clone(b[:cap(b)])
		m := mounted(t, what, b)
		want := all(t, what, m)
		for _, n := range told(t, what, m) {
			list, _ := m.List(n.Ino)
			list = list[:cap(list)]
			for i := range list {
				list[i] = api.Entry{Name: "x", Kind: 9, Ref: -1}
			}
			x, _ := m.Xattrs(n.Ino)
			for i := range x {
				overwrite(x[i].Value)
			}
			x = x[:cap(x)]
			for i := range x {
				x[i] = xattr("x", "x")
			}
			for _, s := range spans(len(n.Data)) {
				read, _ := m.Read(n.Ino, s.off, s.n)
				overwrite(read)
			}
		}
		if !bytes.Equal(b[:cap(b)], before) {
			t.Errorf("%s: an answer shares bytes with what was handed in", what)
		}
		if all(t, what, m) != want {
			t.Errorf("%s: an answer that is written over changes a later one", what)
		}
	}
}

// TestAnswersShareNothing: of two answers of one call, and of an answer's own lists, one is written over.
func TestAnswersShareNothing(t *testing.T) {
	m := mounted(t, "attributes", built(t, "attributes", append(attributes(), one(99, file("zz", mixed(1, 300))))))
	for _, n := range told(t, "attributes", m) {
		one, _ := m.Xattrs(n.Ino)
		two, _ := m.Xattrs(n.Ino)
		for i := range one {
			overwrite(one[i].Value)
			for k := range one {
				if k > i && !sameXattr(one[k], n.Xattrs[k]) {
					t.Errorf("%q: the values of one answer share bytes", n.Names)
				}
			}
		}
		clear(one)
		if !slices.EqualFunc(two, n.Xattrs, sameXattr) {
			t.Errorf("%q: two answers of Xattrs share something", n.Names)
		}
		list, _ := m.List(n.Ino)
		other, _ := m.List(n.Ino)
		want := slices.Clone(other)
		clear(list[:cap(list)])
		if !slices.Equal(other, want) {
			t.Errorf("%q: two answers of List share something", n.Names)
		}
		for _, s := range spans(len(n.Data)) {
			a, _ := m.Read(n.Ino, s.off, s.n)
			b, _ := m.Read(n.Ino, s.off, s.n)
			want := slices.Clone(b)
			overwrite(a)
			if !bytes.Equal(b, want) {
				t.Errorf("%q: two answers of Read share something", n.Names)
			}
		}
	}
}

// TestAppendedAnswers: what is put behind an answer is seen nowhere.
func TestAppendedAnswers(t *testing.T) {
	l := rooted(file("a", mixed(1, 300)), file("b", mixed(2, 100)), dir("c"), attributed(file("c/d", nil), manyXattrs(8, 9)...))
	m := mounted(t, "appended", built(t, "appended", l))
	for _, n := range told(t, "appended", m) {
		list, _ := m.List(n.Ino)
		_ = append(list, api.Entry{Name: "x"})
		x, _ := m.Xattrs(n.Ino)
		for i := range x {
			_ = append(x[i].Value, "more than there is room for"...)
		}
		if !slices.EqualFunc(x, n.Xattrs, sameXattr) {
			t.Errorf("%q: a value behind another one", n.Names)
		}
		_ = append(x, xattr("x", ""))
		for off := range len(n.Data) {
			b, _ := m.Read(n.Ino, off, 10)
			_ = append(b, 'x')
		}
	}
	tells(t, "appended", m, l)
}

// TestSameAnswers: a call's answer hangs neither on the calls ahead of it nor on which of two mounts is asked; one that was refused changes nothing.
func TestSameAnswers(t *testing.T) {
	for what, l := range trees() {
		image := built(t, what, l)
		a, b := mounted(t, what, image), mounted(t, what, image)
		want := all(t, what, a)
		for _, n := range told(t, what, a) {
			for _, ref := range []int{n.Ino, n.Ino + 1, -1} {
				a.Stat(ref)
				a.Look(ref, "none")
				a.List(ref)
				a.Read(ref, -1, 5)
				a.Read(ref, 0, -5)
				a.Read(ref, 100, 1000)
				a.Target(ref)
				a.Xattrs(ref)
			}
		}
		mount.Mount(image[:len(image)-1])
		if all(t, what, a) != want || all(t, what, b) != want {
			t.Errorf("%s: other answers later on", what)
		}
	}
	m := mounted(t, "a world", world().image())
	d := world()
	d.places[0] = 0
	other := mounted(t, "a world without a tail", d.image())
	for range 3 {
		_, e := other.Read(d.ref(worldA), 250, 50)
		b, f := m.Read(d.ref(worldA), 250, 50)
		c, g := other.Read(d.ref(worldA), 0, 256)
		if e != api.ErrIO || f != api.OK || g != api.OK || !bytes.Equal(b, dataOfA()[250:]) || !bytes.Equal(c, dataOfA()[:256]) {
			t.Errorf("errors %d, %d, %d", e, f, g)
		}
	}
}
