package upper

import (
	"maps"
	"slices"
	"strings"

	"lamella/api"
	"lamella/name"
	"lamella/table"
)

// node is what a branch has of one. Names and Ino of the api.Node stay empty: a node's names are in the directories' entries.
type node struct {
	api.Node
	links   int            // how many names it has; of the root 1, as an image tells it
	entries map[string]int // of a directory: the refs of what is in it, by name
	parent  int            // of a directory: the ref of the one that it is in; of the root its own
}

// made is a node like n that has one name, in the directory of the ref parent.
func made(n api.Node, parent int) *node {
	m := &node{Node: kept(n), links: 1}
	if n.Kind == api.Dir {
		m.entries, m.parent = map[string]int{}, parent
	}
	return m
}

// kept shares nothing with n.
func kept(n api.Node) api.Node {
	return api.Node{Kind: n.Kind, Attr: n.Attr, Data: slices.Clone(n.Data), Target: n.Target, Xattrs: copied(n.Xattrs)}
}

// copied shares no value with l.
func copied(l []api.Xattr) []api.Xattr {
	l = slices.Clone(l)
	for i := range l {
		l[i].Value = slices.Clone(l[i].Value)
	}
	return l
}

func (n *node) clone() *node {
	c := *n
	c.Data, c.Xattrs, c.entries = slices.Clone(n.Data), copied(n.Xattrs), maps.Clone(n.entries)
	return &c
}

// size is what Stat tells; each kind has one of these alone.
func (n *node) size() int { return len(n.entries) + len(n.Data) + len(n.Target) }

// cost is how many bytes of a quota a node takes, with the names of what is in it.
func (n *node) cost() int {
	cost := api.NodeCost + len(n.Data) + len(n.Target)
	for _, x := range n.Xattrs {
		cost += len(x.Name) + len(x.Value)
	}
	for s := range n.entries {
		cost += len(s)
	}
	return cost
}

// free tells whether something may be put into a directory as s.
func (n *node) free(s string) api.Errno {
	if e := name.Valid(s); e != api.OK {
		return e
	}
	if _, found := n.entries[s]; found {
		return api.ErrExists
	}
	return api.OK
}

// mayBe leaves out whether n is Opaque: what is made is not.
func mayBe(n api.Node) bool {
	return attrMayBe(n.Attr) && table.MayXattrs(n.Xattrs) && kindMayBe(n)
}

func kindMayBe(n api.Node) bool {
	hasData, hasTarget := len(n.Data) > 0, n.Target != ""
	switch n.Kind {
	case api.Dir:
		return !hasData && !hasTarget
	case api.File:
		return len(n.Data) <= api.MaxFile && !hasTarget
	case api.Link:
		return !hasData && targetMayBe(n.Target)
	case api.White:
		return !hasData && !hasTarget && n.Attr == api.Attr{} && len(n.Xattrs) == 0
	}
	return false
}

func attrMayBe(a api.Attr) bool {
	return within(a.Mode, api.MaxMode) && within(a.Uid, api.MaxID) && within(a.Gid, api.MaxID)
}

func within(n, most int) bool { return 0 <= n && n <= most }

func targetMayBe(s string) bool {
	return s != "" && len(s) <= api.MaxTarget && strings.IndexByte(s, 0) < 0
}
