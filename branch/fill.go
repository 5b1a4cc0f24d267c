package branch

import (
	"lamella/api"
	"lamella/upper"
)

// filler puts the nodes of a tree into an upper branch, as they come in canonical order: each directory ahead of what is in it.
type filler struct {
	up   *upper.Upper
	refs map[int]int // of what was put, by Ino
	way  []int       // the refs of what leads to the last node that was put, and of it, from the root on
}

// put tells no error: all that the branch could refuse is found by Check.
func (f *filler) put(n api.Node) {
	ref, known := f.refs[n.Ino]
	switch depth := len(n.Names); {
	case depth == 0:
		ref = f.root(n)
	case known:
		f.up.Link(f.way[depth-1], n.Names[depth-1], ref)
	default:
		ref, _ = f.up.Make(f.way[depth-1], n.Names[depth-1], n)
	}
	if n.Opaque {
		f.up.SetOpaque(ref, true)
	}
	f.refs[n.Ino] = ref
	f.way = append(f.way[:len(n.Names)], ref)
}

// root is there from the beginning on, with an Attr of its own.
func (f *filler) root(n api.Node) int {
	ref := f.up.Root()
	f.up.SetAttr(ref, n.Attr)
	f.up.SetXattrs(ref, n.Xattrs)
	return ref
}
