package build_test

import (
	"bytes"
	"fmt"
	"slices"
	"strings"
	"testing"

	"lamella/api"
	"lamella/build"
	"lamella/crc"
	"lamella/data"
	"lamella/dirtab"
	"lamella/frag"
	"lamella/inode"
	"lamella/meta"
	"lamella/super"
	"lamella/table"
	"lamella/tree"
)

// slow puts an image together by the calls of the layers below, however long it gets. It needs no recursion: in canonical order all that is in a directory stands right behind it, so that a directory is closed as soon as a node comes that is not in it.
func slow(l []api.Node) []byte {
	nodes := slices.Clone(l)
	slices.SortFunc(nodes, byNames)
	s := &slowRows{
		nodes:   nodes,
		records: make([]api.Inode, len(nodes)),
		refs:    make([]int, len(nodes)),
		entries: make([][]api.Entry, len(nodes)),
		inodes:  meta.New(newTable()),
		lists:   meta.New(newTable()),
		xattrs:  meta.New(newTable()),
	}
	blocks, places := s.layFiles()
	var open []int
	for i, n := range nodes {
		for len(open) > 0 && len(nodes[open[len(open)-1]].Names) >= len(n.Names) {
			s.closeDir(open)
			open = open[:len(open)-1]
		}
		if n.Kind == api.Dir {
			open = append(open, i)
			continue
		}
		s.refs[i] = s.refs[s.first(i)]
		if s.first(i) == i {
			s.writeRecord(i)
		}
		s.enter(open[len(open)-1], i)
	}
	for ; len(open) > 0; open = open[:len(open)-1] {
		s.closeDir(open)
	}
	return s.image(blocks, places)
}

type slowRows struct {
	nodes                 []api.Node
	records               []api.Inode // of a file, where its bytes are
	refs                  []int
	entries               [][]api.Entry
	inodes, lists, xattrs *meta.Writer
	added                 [][]byte // the attributes that were, and their refs
	addedRefs             []int
	written               int
}

// first is the first node that is one with the i-th.
func (s *slowRows) first(i int) int {
	return slices.IndexFunc(s.nodes, func(n api.Node) bool { return n.Ino == s.nodes[i].Ino })
}

func (s *slowRows) layFiles() (blocks []byte, places []int) {
	w, p := data.New(newTable(), 64), frag.New()
	for i, n := range s.nodes {
		if n.Kind != api.File || s.first(i) != i {
			continue
		}
		start, tail := w.Add(n.Data)
		s.records[i] = api.Inode{Start: start, Size: len(n.Data)}
		if len(tail) > 0 {
			s.records[i].Frag, s.records[i].Off = p.Add(tail)
		}
	}
	for _, b := range p.Blocks() {
		places = append(places, w.Frame(b))
	}
	return w.Done(), places
}

func (s *slowRows) enter(dir, i int) {
	n := s.nodes[i]
	s.entries[dir] = append(s.entries[dir], api.Entry{Name: n.Names[len(n.Names)-1], Kind: n.Kind, Ref: s.refs[i]})
}

// closeDir is of the last one of those that are open.
func (s *slowRows) closeDir(open []int) {
	i := open[len(open)-1]
	b, e := dirtab.Put(s.entries[i])
	if e != api.OK {
		panic("no list")
	}
	s.records[i].Start, s.records[i].Size = s.lists.Add(b), len(b)
	s.writeRecord(i)
	if len(open) > 1 {
		s.enter(open[len(open)-2], i)
	}
}

func (s *slowRows) writeRecord(i int) {
	n, r := s.nodes[i], s.records[i]
	ids := table.IDs(s.nodes)
	r.Kind, r.Mode, r.Target = n.Kind, n.Attr.Mode, n.Target
	r.Uid, r.Gid = slices.Index(ids, n.Attr.Uid), slices.Index(ids, n.Attr.Gid)
	for _, other := range s.nodes {
		if other.Ino == n.Ino {
			r.Links++
		}
	}
	if len(n.Xattrs) > 0 {
		r.Xattr = 1 + s.addXattrs(n.Xattrs)
	}
	b, e := inode.Put(r)
	if e != api.OK {
		panic(fmt.Sprintf("no record: %+v", r))
	}
	s.refs[i] = s.inodes.Add(b)
	s.written++
}

func (s *slowRows) addXattrs(l []api.Xattr) int {
	b, e := table.PutXattrs(l)
	if e != api.OK {
		panic("no attributes")
	}
	if k := slices.IndexFunc(s.added, func(a []byte) bool { return bytes.Equal(a, b) }); k >= 0 {
		return s.addedRefs[k]
	}
	s.added = append(s.added, b)
	s.addedRefs = append(s.addedRefs, s.xattrs.Add(b))
	return s.addedRefs[len(s.addedRefs)-1]
}

// image has a superblock of noughts, if that may not be.
func (s *slowRows) image(blocks []byte, places []int) []byte {
	ids := table.IDs(s.nodes)
	fragRow, _ := table.PutNums(places, 4)
	ownerRow, _ := table.PutNums(ids, 2)
	behind := [][]byte{blocks, s.inodes.Done(), s.lists.Done(), rowOf(fragRow), rowOf(ownerRow), s.xattrs.Done()}
	ends := []int{64}
	for _, b := range behind {
		ends = append(ends, ends[len(ends)-1]+len(b))
	}
	first, e := super.Put(newTable(), api.Super{
		InodeAt: ends[1], DirAt: ends[2], FragAt: ends[3], IDAt: ends[4], XattrAt: ends[5], Size: ends[6],
		Inodes: s.written, IDs: len(ids), Frags: len(places), Root: s.refs[0],
	})
	if e != api.OK {
		first = make([]byte, 64)
	}
	return slices.Concat(append([][]byte{first}, behind...)...)
}

// opened is an image that is read by the calls of the layers below.
type opened struct {
	image                 []byte
	table                 *crc.Table
	super                 api.Super
	inodes, lists, xattrs *meta.Reader
	places, owners        []int
}

func open(t *testing.T, what string, image []byte) *opened {
	t.Helper()
	s := superOf(t, what, image)
	o := &opened{image: image, table: newTable(), super: s}
	o.inodes = meta.Open(o.table, image, s.InodeAt, s.DirAt)
	o.lists = meta.Open(o.table, image, s.DirAt, s.FragAt)
	o.xattrs = meta.Open(o.table, image, s.XattrAt, s.Size)
	var e, f api.Errno
	o.places, e = table.TakeNums(meta.Open(o.table, image, s.FragAt, s.IDAt), s.Frags, 4)
	o.owners, f = table.TakeNums(meta.Open(o.table, image, s.IDAt, s.XattrAt), s.IDs, 2)
	if e != api.OK || f != api.OK {
		t.Fatalf("%s: places: error %d; owners: error %d", what, e, f)
	}
	return o
}

// records are all of an image, as they stand in the row of inodes, and their refs.
func (o *opened) records(t *testing.T, what string) (all []api.Inode, refs []int) {
	t.Helper()
	ref := 0
	for range o.super.Inodes {
		r, next, e := inode.Read(o.inodes, ref)
		if e != api.OK {
			t.Fatalf("%s: record %d at %d: error %d", what, len(all), ref, e)
		}
		all, refs, ref = append(all, r), append(refs, ref), next
	}
	if _, _, e := o.inodes.Read(ref, 1); e == api.OK {
		t.Fatalf("%s: more bytes than those of %d records", what, o.super.Inodes)
	}
	return all, refs
}

// record is that of a path.
func (o *opened) record(t *testing.T, path string) (r api.Inode, ref int) {
	t.Helper()
	ref = o.super.Root
	for _, s := range named(path) {
		x, e := dirtab.Look(o.list(t, ref), s)
		if e != api.OK {
			t.Fatalf("%s: no %s: error %d", path, s, e)
		}
		ref = x.Ref
	}
	r, _, e := inode.Read(o.inodes, ref)
	if e != api.OK {
		t.Fatalf("%s: no record at %d: error %d", path, ref, e)
	}
	return r, ref
}

// list is the bytes of a directory's.
func (o *opened) list(t *testing.T, ref int) []byte {
	t.Helper()
	r, _, e := inode.Read(o.inodes, ref)
	if e != api.OK || r.Kind != api.Dir {
		t.Fatalf("no directory at %d: %+v, error %d", ref, r, e)
	}
	b, _, e := o.lists.Read(r.Start, r.Size)
	if e != api.OK {
		t.Fatalf("no list of %+v: error %d", r, e)
	}
	return b
}

// told is the tree that an image has, its nodes as they are come to, with refs as Inos.
func (o *opened) told(t *testing.T, names []string, ref int) []api.Node {
	t.Helper()
	r, _, e := inode.Read(o.inodes, ref)
	if e != api.OK {
		t.Fatalf("%v: no record at %d: error %d", names, ref, e)
	}
	n := api.Node{Names: names, Ino: ref, Kind: r.Kind, Target: r.Target}
	n.Attr = api.Attr{Mode: r.Mode, Uid: o.owners[r.Uid], Gid: o.owners[r.Gid]}
	if r.Xattr > 0 {
		n.Xattrs, e = table.TakeXattrs(o.xattrs, r.Xattr-1)
	}
	if e != api.OK {
		t.Fatalf("%v: no attributes at %d: error %d", names, r.Xattr-1, e)
	}
	if r.Kind == api.File {
		n.Data = o.bytes(t, r)
	}
	nodes := []api.Node{n}
	if r.Kind != api.Dir {
		return nodes
	}
	entries, e := dirtab.Take(o.list(t, ref))
	if e != api.OK {
		t.Fatalf("%v: no list: error %d", names, e)
	}
	for _, x := range entries {
		kid := o.told(t, append(slices.Clone(names), x.Name), x.Ref)
		if kid[0].Kind != x.Kind {
			t.Fatalf("%v: %+v, but of the kind %d", names, x, kid[0].Kind)
		}
		nodes = append(nodes, kid...)
	}
	return nodes
}

// bytes are those of a file.
func (o *opened) bytes(t *testing.T, r api.Inode) []byte {
	t.Helper()
	b, e := data.Read(o.table, o.image, r.Start, r.Size, 0, r.Size)
	if e != api.OK {
		t.Fatalf("%+v: no blocks: error %d", r, e)
	}
	if r.Frag == 0 {
		return b
	}
	tail, e := frag.Read(o.table, o.image, o.places, r.Frag, r.Off, r.Size%128)
	if e != api.OK {
		t.Fatalf("%+v: no tail: error %d", r, e)
	}
	return append(b, tail...)
}

// isImageOf holds an image against that which the layers below come to, and what is told of it against the tree.
func isImageOf(t *testing.T, what string, image []byte, l []api.Node) {
	t.Helper()
	if want := slow(l); !bytes.Equal(image, want) {
		t.Fatalf("%s: %d bytes, wanted %d, or others", what, len(image), len(want))
	}
	if most := build.Most(l); len(image) > most {
		t.Errorf("%s: %d bytes, of at most %d", what, len(image), most)
	}
	o := open(t, what, image)
	o.records(t, what)
	told := o.told(t, nil, o.super.Root)
	if !slices.IsSortedFunc(told, byNames) {
		t.Errorf("%s: names that do not rise", what)
	}
	got, e := tree.Canon(told)
	want, _ := tree.Canon(l)
	if e != api.OK || !slices.EqualFunc(got, want, sameNode) {
		t.Errorf("%s: told is another tree, or none: error %d", what, e)
	}
}

func sameNode(a, b api.Node) bool {
	return slices.Equal(a.Names, b.Names) && a.Ino == b.Ino && tree.Alike(a, b)
}

func TestImages(t *testing.T) {
	for what, l := range trees() {
		isImageOf(t, what, built(t, what, l), l)
	}
}

func TestGreatTrees(t *testing.T) {
	for what, l := range greatTrees() {
		isImageOf(t, what, built(t, what, l), l)
	}
}

// TestAnyTrees: trees of nodes that come as chance has it, the same ones in each run.
func TestAnyTrees(t *testing.T) {
	for seed := range uint32(300) {
		l := anyTree(seed)
		what := fmt.Sprint("any tree, ", seed)
		image := built(t, what, l)
		isImageOf(t, what, image, l)
		if !bytes.Equal(built(t, what, shuffled(seed, l)), image) {
			t.Errorf("%s: in another order another image", what)
		}
	}
}

// chance is a row of numbers that hang on where it begins.
type chance uint32

func (c *chance) below(n int) int {
	*c = *c*1664525 + 1013904223
	return int(*c>>8) % n
}

// anyTree has few different contents, attributes and owners, so that many of them come again.
func anyTree(seed uint32) []api.Node {
	c := chance(seed)
	dirs := [][]string{nil}
	var nodes []api.Node
	for i := range 1 + c.below(60) {
		in := dirs[c.below(len(dirs))]
		names := append(slices.Clone(in), strings.Repeat(string(rune('a'+c.below(26))), 1+c.below(3))+fmt.Sprint(i))
		n := api.Node{Names: names, Kind: 1 + c.below(3)}
		switch {
		case n.Kind == api.Dir && len(names) < 16:
			dirs = append(dirs, names)
		case n.Kind == api.Link:
			n.Target = strings.Repeat("t", 1+c.below(200))
		default:
			n.Kind, n.Data = api.File, c.contents()
		}
		n.Attr = api.Attr{Mode: c.below(512), Uid: c.below(5) * 1000, Gid: c.below(3) * 1500}
		n.Xattrs = nXattrs(max(0, c.below(8)-4), c.below(3)*c.below(60))
		if k := c.below(len(nodes) + 1); k < len(nodes) && nodes[k].Kind != api.Dir && n.Kind != api.Dir && c.below(2) == 0 {
			if nodes[k].Ino == 0 {
				nodes[k].Ino = -1 - k
			}
			n = nodes[k]
			n.Names = names
		}
		nodes = append(nodes, n)
	}
	return rooted(nodes...)
}

func (c *chance) contents() []byte {
	var b []byte
	for range c.below(6) {
		b = append(b, [][]byte{make([]byte, 128), spelt("128a"), rising(128), mixed(uint32(c.below(3)), 128, 9)}[c.below(4)]...)
	}
	return append(b, mixed(uint32(c.below(4)), c.below(2)*c.below(128), 200)...)
}
