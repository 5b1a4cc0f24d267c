package mount

import (
	"slices"

	"lamella/api"
)

// node is a record, and what it points to, but for a file's bytes.
type node struct {
	api.Inode
	attr    api.Attr // with the owners' numbers themselves, which the record has not
	entries []api.Entry
	xattrs  []api.Xattr
}

// size is what is told of a node; only of a file it is the record's.
func (n node) size() int {
	switch n.Kind {
	case api.Dir:
		return len(n.entries)
	case api.Link:
		return len(n.Target)
	}
	return n.Size
}

// copied shares no value with l.
func copied(l []api.Xattr) []api.Xattr {
	l = slices.Clone(l)
	for i := range l {
		l[i].Value = slices.Clone(l[i].Value)
	}
	return l
}
