package build

import (
	"slices"

	"lamella/api"
	"lamella/crc"
	"lamella/dirtab"
	"lamella/inode"
	"lamella/meta"
	"lamella/table"
	"lamella/tree"
)

// records writes the records of a tree, and what they point to. It drops the errors of what puts bytes: there are none of a tree that may be, as even the greatest rows have refs of four bytes.
type records struct {
	nodes                 []api.Node // in canonical order
	files                 map[int]file
	owners                []int
	inodes, lists, xattrs *meta.Writer
	addXattrs             func(b []byte) int
	refs                  map[int]int // of the records that were written, by Ino
}

func newRecords(t *crc.Table, nodes []api.Node, files map[int]file) *records {
	xattrs := meta.New(t)
	return &records{
		nodes:     nodes,
		files:     files,
		owners:    table.IDs(nodes),
		inodes:    meta.New(t),
		lists:     meta.New(t),
		xattrs:    xattrs,
		addXattrs: onceInto(xattrs),
		refs:      map[int]int{},
	}
}

// onceInto adds bytes to a row and tells their ref, but of the same bytes again the ref that they have.
func onceInto(row *meta.Writer) func(b []byte) int {
	refs := map[string]int{}
	return func(b []byte) int {
		ref, added := refs[string(b)]
		if !added {
			ref = row.Add(b)
			refs[string(b)] = ref
		}
		return ref
	}
}

// write tells the ref of the i-th node. A record is written behind all that it points to, whose refs it needs.
func (r *records) write(i int) int {
	n := r.nodes[i]
	if ref, written := r.refs[n.Ino]; written {
		return ref
	}
	record := r.ofKind(n)
	record.Kind, record.Mode = n.Kind, n.Attr.Mode
	record.Uid, record.Gid = r.owner(n.Attr.Uid), r.owner(n.Attr.Gid)
	record.Links = tree.Links(r.nodes, i)
	record.Xattr = r.xattr(n.Xattrs)
	b, _ := inode.Put(record)
	ref := r.inodes.Add(b)
	r.refs[n.Ino] = ref
	return ref
}

// ofKind is a record that has just what is its kind's own. Of a directory, all that is in it is written.
func (r *records) ofKind(n api.Node) api.Inode {
	switch n.Kind {
	case api.Dir:
		list := r.list(n.Names)
		return api.Inode{Start: r.lists.Add(list), Size: len(list)}
	case api.File:
		f := r.files[n.Ino]
		return api.Inode{Start: f.start, Size: len(n.Data), Frag: f.frag, Off: f.off}
	}
	return api.Inode{Target: n.Target}
}

// list is the bytes of a directory's list; what is in it is written.
func (r *records) list(names []string) []byte {
	var entries []api.Entry
	for _, i := range tree.Kids(r.nodes, names) {
		n := r.nodes[i]
		entries = append(entries, api.Entry{Name: n.Names[len(names)], Kind: n.Kind, Ref: r.write(i)})
	}
	b, _ := dirtab.Put(entries)
	return b
}

// owner is the place of an owner that is there.
func (r *records) owner(id int) int {
	place, _ := slices.BinarySearch(r.owners, id)
	return place
}

// xattr is what a record tells of attributes.
func (r *records) xattr(l []api.Xattr) int {
	if len(l) == 0 {
		return 0
	}
	b, _ := table.PutXattrs(l)
	return r.addXattrs(b) + 1
}
