package mount

import (
	"lamella/api"
	"lamella/crc"
	"lamella/data"
	"lamella/dirtab"
	"lamella/inode"
	"lamella/meta"
	"lamella/super"
	"lamella/table"
)

// placeWide and ownerWide are of how many bytes the tables' numbers are.
const (
	placeWide = 4
	ownerWide = 2
)

// scan goes through an image's tree, from the root on, and holds all of it against the superblock.
type scan struct {
	api.Super
	image                 []byte
	inodes, lists, xattrs *meta.Reader
	places, owners        []int
	nodes                 map[int]node // by ref: what was come to
	named                 map[int]int  // by ref: how often it was
	names                 int          // of all nodes, the root's too, though it has none
}

// open has come to nothing yet; false, if the superblock or a table is none.
func open(t *crc.Table, image []byte) (*scan, bool) {
	first, e := super.Take(t, image)
	if e != api.OK {
		return nil, false
	}
	row := func(from, to int) *meta.Reader { return meta.Open(t, image, from, to) }
	places, e := table.TakeNums(row(first.FragAt, first.IDAt), first.Frags, placeWide)
	if e != api.OK {
		return nil, false
	}
	owners, e := table.TakeNums(row(first.IDAt, first.XattrAt), first.IDs, ownerWide)
	if e != api.OK || !rise(owners) {
		return nil, false
	}
	return &scan{
		Super:  first,
		image:  image,
		inodes: row(first.InodeAt, first.DirAt),
		lists:  row(first.DirAt, first.FragAt),
		xattrs: row(first.XattrAt, first.Size),
		places: places,
		owners: owners,
		nodes:  map[int]node{},
		named:  map[int]int{},
	}, true
}

func rise(l []int) bool {
	for i := 1; i < len(l); i++ {
		if l[i-1] >= l[i] {
			return false
		}
	}
	return true
}

// isWhole tells whether all that the root leads to is there, and is just what was said of how much it is.
func (s *scan) isWhole() bool {
	if !s.visit(api.Entry{Kind: api.Dir, Ref: s.Root}, 0) || len(s.nodes) != s.Inodes {
		return false
	}
	for ref, n := range s.nodes {
		if n.Links != s.named[ref] {
			return false
		}
	}
	return true
}

// visit comes to a node that has so many names, and to all that is in it. A directory is kept ahead of what is in it, so that one within itself is found to be there, and the visit ends.
func (s *scan) visit(x api.Entry, depth int) bool {
	s.names++
	s.named[x.Ref]++
	if depth > api.MaxDepth || s.names > api.MaxNodes {
		return false
	}
	if n, known := s.nodes[x.Ref]; known {
		return n.Kind == x.Kind && n.Kind != api.Dir
	}
	n, ok := s.read(x)
	if !ok {
		return false
	}
	s.nodes[x.Ref] = n
	for _, kid := range n.entries {
		if !s.visit(kid, depth+1) {
			return false
		}
	}
	return true
}

// read is the node that an entry tells of; false, if it is none of that kind, or if something that it points to is not there.
func (s *scan) read(x api.Entry) (node, bool) {
	r, _, e := inode.Read(s.inodes, x.Ref)
	if e != api.OK || r.Kind != x.Kind || r.Uid >= len(s.owners) || r.Gid >= len(s.owners) {
		return node{}, false
	}
	n := node{Inode: r, attr: api.Attr{Mode: r.Mode, Uid: s.owners[r.Uid], Gid: s.owners[r.Gid]}}
	if r.Xattr != 0 {
		n.xattrs, e = table.TakeXattrs(s.xattrs, r.Xattr-1)
	}
	if e != api.OK {
		return node{}, false
	}
	switch r.Kind {
	case api.Dir:
		n.entries, e = s.list(r)
	case api.File:
		e = s.walk(r)
	}
	return n, e == api.OK
}

func (s *scan) list(dir api.Inode) ([]api.Entry, api.Errno) {
	b, _, e := s.lists.Read(dir.Start, dir.Size)
	if e != api.OK {
		return nil, e
	}
	return dirtab.Take(b)
}

// walk tells whether a file's blocks are among those of the image, and its tail's fragment among the fragments. Where a file without blocks begins is no place, and not looked at.
func (s *scan) walk(f api.Inode) api.Errno {
	if f.Frag > s.Frags {
		return api.ErrCorrupt
	}
	if blocksOf(f) == 0 {
		return api.OK
	}
	if f.Start < api.SuperSize {
		return api.ErrCorrupt
	}
	_, e := data.Walk(s.image, f.Start, f.Size, s.InodeAt)
	return e
}
