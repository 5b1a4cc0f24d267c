package tree

import (
	"bytes"
	"slices"
	"strings"

	"lamella/api"
)

// Alike tells whether two nodes have the same; their names and Inos may differ.
func Alike(a, b api.Node) bool {
	return a.Kind == b.Kind && a.Attr == b.Attr && a.Target == b.Target && a.Opaque == b.Opaque &&
		bytes.Equal(a.Data, b.Data) && slices.EqualFunc(a.Xattrs, b.Xattrs, sameXattr)
}

func sameXattr(a, b api.Xattr) bool {
	return a.Name == b.Name && bytes.Equal(a.Value, b.Value)
}

func mayBe(n api.Node) bool {
	return kindMayBe(n) && attrMayBe(n.Attr) && xattrsMayBe(n.Xattrs) && !n.Opaque
}

func kindMayBe(n api.Node) bool {
	switch n.Kind {
	case api.Dir:
		return len(n.Data) == 0 && n.Target == ""
	case api.File:
		return len(n.Data) <= api.MaxFile && n.Target == ""
	case api.Link:
		return len(n.Data) == 0 && isText(n.Target, api.MaxTarget)
	}
	return false
}

func attrMayBe(a api.Attr) bool {
	return upTo(a.Mode, api.MaxMode) && upTo(a.Uid, api.MaxID) && upTo(a.Gid, api.MaxID)
}

func upTo(n, most int) bool { return n >= 0 && n <= most }

// xattrsMayBe holds each name against the one ahead of it: the first one's is the empty text, which no name is.
func xattrsMayBe(l []api.Xattr) bool {
	if len(l) > api.MaxXattrs {
		return false
	}
	ahead := ""
	for _, x := range l {
		if x.Name <= ahead || !isText(x.Name, api.MaxXName) || len(x.Value) > api.MaxXValue {
			return false
		}
		ahead = x.Name
	}
	return true
}

// isText is whether a text has 1 to so many bytes, none of them 0.
func isText(s string, most int) bool {
	return s != "" && len(s) <= most && strings.IndexByte(s, 0) < 0
}

func all(l []api.Node, good func(api.Node) bool) bool {
	for _, n := range l {
		if !good(n) {
			return false
		}
	}
	return true
}

// copied shares no list with n. What is empty is nil, so that a tree's lists are the same however they were empty.
func copied(n api.Node) api.Node {
	n.Names = append([]string(nil), n.Names...)
	n.Data = append([]byte(nil), n.Data...)
	n.Xattrs = append([]api.Xattr(nil), n.Xattrs...)
	for i := range n.Xattrs {
		n.Xattrs[i].Value = append([]byte(nil), n.Xattrs[i].Value...)
	}
	return n
}
