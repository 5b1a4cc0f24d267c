package mount_test

import (
	"bytes"
	"math"
	"slices"
	"testing"

	"lamella/api"
	"lamella/build"
	"lamella/crc"
	"lamella/data"
	"lamella/dirtab"
	"lamella/frag"
	"lamella/inode"
	"lamella/meta"
	"lamella/mount"
	"lamella/super"
	"lamella/table"
	"lamella/tree"
)

// model is an image as the chapter's words have it, one after the other, by the calls of the layers below. It goes level by level through all names, and reads a record again for each.
type model struct {
	image                 []byte
	sums                  *crc.Table
	super                 api.Super
	inodes, lists, xattrs *meta.Reader
	places, owners        []int
	nodes                 []seen
	links                 map[int]int
}

// seen is a name, and what it names.
type seen struct {
	names  []string
	ref    int
	record api.Inode
	list   []api.Entry
	xattrs []api.Xattr
}

func modelOf(image []byte) (*model, bool) {
	sums := crc.New()
	s, e := super.Take(&sums, image)
	if e != api.OK {
		return nil, false
	}
	m := &model{image: image, sums: &sums, super: s, links: map[int]int{}}
	m.inodes = meta.Open(m.sums, image, s.InodeAt, s.DirAt)
	m.lists = meta.Open(m.sums, image, s.DirAt, s.FragAt)
	m.xattrs = meta.Open(m.sums, image, s.XattrAt, s.Size)
	var f api.Errno
	m.places, e = table.TakeNums(meta.Open(m.sums, image, s.FragAt, s.IDAt), s.Frags, 4)
	m.owners, f = table.TakeNums(meta.Open(m.sums, image, s.IDAt, s.XattrAt), s.IDs, 2)
	if e != api.OK || f != api.OK || !slices.IsSorted(m.owners) || len(slices.Compact(slices.Clone(m.owners))) != s.IDs {
		return nil, false
	}
	return m, m.levels() && m.counts()
}

// levels comes to all names, those of fewer ones first.
func (m *model) levels() bool {
	type come struct {
		names []string
		entry api.Entry
	}
	for level := []come{{nil, api.Entry{Kind: api.Dir, Ref: m.super.Root}}}; len(level) > 0; {
		var below []come
		for _, c := range level {
			n, ok := m.come(c.names, c.entry)
			if !ok || len(m.nodes) == 1024 || len(c.names) > 16 {
				return false
			}
			m.nodes = append(m.nodes, n)
			m.links[n.ref]++
			for _, x := range n.list {
				below = append(below, come{append(slices.Clone(c.names), x.Name), x})
			}
		}
		level = below
	}
	return true
}

func (m *model) come(names []string, x api.Entry) (seen, bool) {
	r, _, e := inode.Read(m.inodes, x.Ref)
	n := seen{names: names, ref: x.Ref, record: r}
	if e != api.OK || r.Kind != x.Kind || r.Uid > len(m.owners)-1 || r.Gid > len(m.owners)-1 {
		return n, false
	}
	if r.Xattr > 0 {
		n.xattrs, e = table.TakeXattrs(m.xattrs, r.Xattr-1)
	}
	if e != api.OK {
		return n, false
	}
	if r.Kind == api.File {
		_, e := data.Walk(m.image, r.Start, r.Size, m.super.InodeAt)
		return n, (r.Size < 128 || r.Start >= 64 && e == api.OK) && r.Frag <= m.super.Frags
	}
	if r.Kind == api.Dir {
		b, _, e := m.lists.Read(r.Start, r.Size)
		if e != api.OK || m.links[x.Ref] > 0 {
			return n, false
		}
		n.list, e = dirtab.Take(b)
		return n, e == api.OK
	}
	return n, true
}

func (m *model) counts() bool {
	for _, n := range m.nodes {
		if n.record.Links != m.links[n.ref] {
			return false
		}
	}
	return len(m.links) == m.super.Inodes
}

func (m *model) stat(n seen) api.Stat {
	r := n.record
	s := api.Stat{Kind: r.Kind, Links: m.links[n.ref], Size: r.Size}
	s.Attr = api.Attr{Mode: r.Mode, Uid: m.owners[r.Uid], Gid: m.owners[r.Gid]}
	switch r.Kind {
	case api.Dir:
		s.Size = len(n.list)
	case api.Link:
		s.Size = len(r.Target)
	}
	return s
}

// bytes are those of a file, and of each whether it can be read.
func (m *model) bytes(r api.Inode) (b []byte, good []bool) {
	whole := r.Size / 128 * 128
	for i := range r.Size {
		var x []byte
		e := api.OK
		if i < whole {
			x, e = data.Read(m.sums, m.image, r.Start, r.Size, i, 1)
		} else {
			x, e = frag.Read(m.sums, m.image, m.places, r.Frag, r.Off+i-whole, 1)
		}
		if e != api.OK {
			x = []byte{0}
		}
		b, good = append(b, x...), append(good, e == api.OK)
	}
	return b, good
}

func refuses(t *testing.T, what string, image []byte) {
	t.Helper()
	if m, e := mount.Mount(image); e != api.ErrCorrupt || m != nil {
		t.Errorf("%s: Mount: %v, error %d; wanted none and %d", what, m != nil, e, api.ErrCorrupt)
	}
	if _, ok := modelOf(image); ok {
		t.Errorf("%s: nothing is wrong with it", what)
	}
}

func mounted(t *testing.T, what string, image []byte) *mount.Image {
	t.Helper()
	m, e := mount.Mount(image)
	if e != api.OK || m == nil {
		t.Fatalf("%s: Mount: error %d", what, e)
	}
	return m
}

// mounts is of an image that may be mounted: all that it tells is what the model has.
func mounts(t *testing.T, what string, image []byte) *mount.Image {
	t.Helper()
	m := mounted(t, what, image)
	l, ok := modelOf(image)
	if !ok {
		t.Fatalf("%s: something is wrong with it", what)
	}
	agrees(t, what, m, l)
	return m
}

// asTheModel is of any bytes; whether they were mounted.
func asTheModel(t *testing.T, what string, image []byte) bool {
	t.Helper()
	if _, ok := modelOf(image); !ok {
		refuses(t, what, image)
		return false
	}
	mounts(t, what, image)
	return true
}

func agrees(t *testing.T, what string, m *mount.Image, l *model) {
	t.Helper()
	if m.Root() != l.super.Root {
		t.Errorf("%s: Root %d, wanted %d", what, m.Root(), l.super.Root)
	}
	var nodes []api.Node
	for _, n := range l.nodes {
		s, e := m.Stat(n.ref)
		if s != l.stat(n) || e != api.OK {
			t.Errorf("%s: %q: Stat %+v, error %d; wanted %+v", what, n.names, s, e, l.stat(n))
		}
		x, e := m.Xattrs(n.ref)
		if !slices.EqualFunc(x, n.xattrs, sameXattr) || e != api.OK {
			t.Errorf("%s: %q: Xattrs %q, error %d; wanted %q", what, n.names, x, e, n.xattrs)
		}
		b := agreesOfKind(t, what, m, l, n)
		target, _ := m.Target(n.ref)
		nodes = append(nodes, api.Node{Names: n.names, Ino: n.ref, Kind: s.Kind, Attr: s.Attr, Data: b, Target: target, Xattrs: x})
	}
	if e := tree.Check(nodes); e != api.OK {
		t.Errorf("%s: told is no tree: error %d", what, e)
	}
	for _, ref := range []int{-1, math.MinInt, math.MaxInt, 1 << 32} {
		isNoRef(t, what, m, ref)
	}
}

// agreesOfKind tells the bytes of a file, noughts in the place of those that can't be read.
func agreesOfKind(t *testing.T, what string, m *mount.Image, l *model, n seen) []byte {
	t.Helper()
	list, e := m.List(n.ref)
	target, f := m.Target(n.ref)
	_, g := m.Look(n.ref, "")
	_, h := m.Read(n.ref, 0, 0)
	want := [4]api.Errno{api.ErrNotDir, api.ErrArg, api.ErrNotDir, api.OK}
	switch n.record.Kind {
	case api.Dir:
		want = [4]api.Errno{api.OK, api.ErrArg, api.ErrNone, api.ErrIsDir}
	case api.Link:
		want = [4]api.Errno{api.ErrNotDir, api.OK, api.ErrNotDir, api.ErrArg}
	}
	if !slices.Equal(list, n.list) || target != n.record.Target || [4]api.Errno{e, f, g, h} != want {
		t.Errorf("%s: %q: List %v, Target %q, errors %v; wanted %v, %q, %v", what, n.names, list, target, []api.Errno{e, f, g, h}, n.list, n.record.Target, want)
	}
	for _, x := range n.list {
		if found, e := m.Look(n.ref, x.Name); found != x || e != api.OK {
			t.Errorf("%s: %q: Look of %+v: %+v, error %d", what, n.names, x, found, e)
		}
	}
	if n.record.Kind != api.File {
		return nil
	}
	b, good := l.bytes(n.record)
	for _, x := range spans(len(b)) {
		reads(t, what, m, n.ref, x, b, good)
	}
	return b
}

// span is what Read is asked for.
type span struct{ off, n int }

// spans are some of a file of so many bytes.
func spans(size int) []span {
	whole := size / 128 * 128
	l := []span{{0, size}, {0, math.MaxInt}, {0, whole}, {whole, size}, {size, 1}, {size + 1, 1}, {math.MaxInt, math.MaxInt}, {size / 2, 0}}
	for off := 0; off < size; off += 61 {
		l = append(l, span{off, 1}, span{off, 61}, span{off, 129})
	}
	return l
}

// reads holds what Read tells of a file against all of its bytes.
func reads(t *testing.T, what string, m *mount.Image, ref int, x span, b []byte, good []bool) {
	t.Helper()
	from := min(x.off, len(b))
	to := from + min(x.n, len(b)-from)
	want, wantErr := b[from:to], api.OK
	if slices.Contains(good[from:to], false) {
		want, wantErr = nil, api.ErrIO
	}
	if got, e := m.Read(ref, x.off, x.n); !bytes.Equal(got, want) || e != wantErr {
		t.Errorf("%s: Read(%d, %d, %d) of %d bytes: %d bytes, error %d; wanted %d, error %d", what, ref, x.off, x.n, len(b), len(got), e, len(want), wantErr)
	}
}

// isNoRef is of one that no list told: each call tells ErrArg, and nothing beside it.
func isNoRef(t *testing.T, what string, m *mount.Image, ref int) {
	t.Helper()
	s, e := m.Stat(ref)
	x, f := m.Look(ref, "a")
	l, g := m.List(ref)
	b, h := m.Read(ref, 0, 1)
	c, h2 := m.Read(ref, -1, -1)
	target, i := m.Target(ref)
	a, k := m.Xattrs(ref)
	for at, e := range []api.Errno{e, f, g, h, h2, i, k} {
		if e != api.ErrArg {
			t.Errorf("%s: ref %d: call %d: error %d, wanted %d", what, ref, at, e, api.ErrArg)
		}
	}
	if s != (api.Stat{}) || x != (api.Entry{}) || len(l)+len(b)+len(c)+len(target)+len(a) != 0 {
		t.Errorf("%s: ref %d: %v %v %v %q %q %v beside an error", what, ref, s, x, l, b, target, a)
	}
}

func sameXattr(a, b api.Xattr) bool { return a.Name == b.Name && bytes.Equal(a.Value, b.Value) }

func built(t *testing.T, what string, l []api.Node) []byte {
	t.Helper()
	image, e := build.Build(l)
	if e != api.OK {
		t.Fatalf("%s: Build: error %d", what, e)
	}
	return image
}

// told is the tree that an image tells, from the root on, with refs as Inos. Each node is found by Look, too.
func told(t *testing.T, what string, m *mount.Image) []api.Node {
	t.Helper()
	return toldFrom(t, what, m, nil, api.Entry{Kind: api.Dir, Ref: m.Root()})
}

func toldFrom(t *testing.T, what string, m *mount.Image, names []string, x api.Entry) []api.Node {
	t.Helper()
	s, e := m.Stat(x.Ref)
	n := api.Node{Names: names, Ino: x.Ref, Kind: s.Kind, Attr: s.Attr}
	if e != api.OK || s.Kind != x.Kind {
		t.Fatalf("%s: %q: %+v, of %+v: error %d", what, names, s, x, e)
	}
	n.Xattrs, e = m.Xattrs(x.Ref)
	var nodes []api.Node
	size := 0
	switch {
	case e != api.OK:
	case s.Kind == api.File:
		n.Data, e = m.Read(x.Ref, 0, api.MaxFile)
		size = len(n.Data)
	case s.Kind == api.Link:
		n.Target, e = m.Target(x.Ref)
		size = len(n.Target)
	default:
		var entries []api.Entry
		entries, e = m.List(x.Ref)
		size = len(entries)
		for _, kid := range entries {
			if found, e := m.Look(x.Ref, kid.Name); found != kid || e != api.OK {
				t.Errorf("%s: %q: Look of %+v: %+v, error %d", what, names, kid, found, e)
			}
			nodes = append(nodes, toldFrom(t, what, m, append(slices.Clone(names), kid.Name), kid)...)
		}
	}
	if e != api.OK || size != s.Size {
		t.Fatalf("%s: %q: error %d; Size %d, of %d", what, names, e, s.Size, size)
	}
	return append([]api.Node{n}, nodes...)
}

// tells is of an image of a tree: it tells just that, names rising, files that are one with one ref, and how often each is named.
func tells(t *testing.T, what string, m *mount.Image, l []api.Node) {
	t.Helper()
	got := told(t, what, m)
	want, e := tree.Canon(l)
	if e != api.OK || len(got) != len(want) {
		t.Fatalf("%s: %d nodes, wanted %d: error %d", what, len(got), len(want), e)
	}
	refs, inos := map[int]int{}, map[int]int{}
	for i, n := range got {
		w := want[i]
		if !slices.Equal(n.Names, w.Names) || !tree.Alike(n, w) {
			t.Errorf("%s: %q: %+v, wanted %+v", what, w.Names, n, w)
		}
		if s, _ := m.Stat(n.Ino); s.Links != tree.Links(want, i) {
			t.Errorf("%s: %q: Links %d, wanted %d", what, w.Names, s.Links, tree.Links(want, i))
		}
		ino, known := refs[n.Ino]
		ref, numbered := inos[w.Ino]
		if known != numbered || known && (ino != w.Ino || ref != n.Ino) {
			t.Errorf("%s: %q: ref %d, of the Ino %d", what, w.Names, n.Ino, w.Ino)
		}
		refs[n.Ino], inos[w.Ino] = w.Ino, n.Ino
	}
}
