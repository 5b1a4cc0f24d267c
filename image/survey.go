package image

import (
	"slices"
	"strings"

	"lamella/api"
)

// survey goes through a branch's tree, and keeps the nodes that it comes to.
type survey struct {
	branch Branch
	nodes  []api.Node
	inos   map[int]int // by ref
	within []int       // the refs of the directories that the way has led into
}

// visit comes to a node, then to all that is in it by rising names: that is the canonical order, and nothing need be sorted at the end.
func (s *survey) visit(ref int, names []string) api.Errno {
	n, e := told(s.branch, ref)
	if e != api.OK {
		return e
	}
	n.Names, n.Ino = names, s.ino(ref)
	s.nodes = append(s.nodes, n)
	if n.Kind != api.Dir {
		return api.OK
	}
	return s.enter(ref, names)
}

// enter refuses a directory that is within itself: it is in no tree, and the way would not end.
func (s *survey) enter(dir int, names []string) api.Errno {
	if slices.Contains(s.within, dir) {
		return api.ErrLinks
	}
	entries, e := s.branch.List(dir)
	if e != api.OK {
		return e
	}
	s.within = append(s.within, dir)
	for _, x := range rising(entries) {
		if e := s.visit(x.Ref, slices.Concat(names, []string{x.Name})); e != api.OK {
			return e
		}
	}
	s.within = s.within[:len(s.within)-1]
	return api.OK
}

func (s *survey) ino(ref int) int {
	if _, known := s.inos[ref]; !known {
		s.inos[ref] = len(s.inos) + 1
	}
	return s.inos[ref]
}

// told is a node, but for its names and its Ino.
func told(b Branch, ref int) (api.Node, api.Errno) {
	stat, e := b.Stat(ref)
	if e != api.OK {
		return api.Node{}, e
	}
	n := api.Node{Kind: stat.Kind, Attr: stat.Attr}
	switch stat.Kind {
	case api.File:
		n.Data, e = b.Read(ref, 0, stat.Size)
	case api.Link:
		n.Target, e = b.Target(ref)
	}
	if e != api.OK {
		return api.Node{}, e
	}
	n.Xattrs, e = b.Xattrs(ref)
	if e != api.OK {
		return api.Node{}, e
	}
	return copied(n), api.OK
}

// rising leaves the list as it is: a branch that is not an image may have handed out its own.
func rising(entries []api.Entry) []api.Entry {
	entries = slices.Clone(entries)
	slices.SortStableFunc(entries, func(a, b api.Entry) int { return strings.Compare(a.Name, b.Name) })
	return entries
}

// copied shares no bytes and no attributes with n, for the same reason.
func copied(n api.Node) api.Node {
	n.Data = append([]byte(nil), n.Data...)
	n.Xattrs = append([]api.Xattr(nil), n.Xattrs...)
	for i := range n.Xattrs {
		n.Xattrs[i].Value = append([]byte(nil), n.Xattrs[i].Value...)
	}
	return n
}
