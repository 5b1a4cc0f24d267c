package merge

import "lamella/api"

// numbers gives new Inos, 1 and on: what has one Ino in one layer has one of these.
func numbers() func(layer, ino int) int {
	type old struct{ layer, ino int }
	fresh := map[old]int{}
	return func(layer, ino int) int {
		n := old{layer, ino}
		if _, found := fresh[n]; !found {
			fresh[n] = len(fresh) + 1
		}
		return fresh[n]
	}
}

// told is a node as it is answered: not Opaque, and its lists are the caller's own.
func told(n api.Node) api.Node {
	n.Names, n.Data, n.Xattrs = copied(n.Names), copied(n.Data), copied(n.Xattrs)
	for i := range n.Xattrs {
		n.Xattrs[i].Value = copied(n.Xattrs[i].Value)
	}
	n.Opaque = false
	return n
}

func copied[T any](l []T) []T { return append([]T(nil), l...) }
