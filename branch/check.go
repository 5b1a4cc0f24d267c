package branch

import (
	"lamella/api"
	"lamella/tree"
)

// standIn is the node of which tree.Check tells what Check has to tell of n. A White that may be is an empty file there: nothing can be in it, and it is no root. What else may not be stays as it is, as it may not be there either.
func standIn(n api.Node) api.Node {
	switch {
	case tree.Alike(n, api.Node{Kind: api.White}):
		n.Kind = api.File
	case n.Kind == api.Dir:
		n.Opaque = false
	}
	return n
}

// whitesAreSingle is whether each White is the only node of its Ino: with another White, or with what is not like it, it would be wrong.
func whitesAreSingle(l []api.Node) bool {
	names := make(map[int]int, len(l)) // how many each Ino has
	for _, n := range l {
		names[n.Ino]++
	}
	for _, n := range l {
		if n.Kind == api.White && names[n.Ino] > 1 {
			return false
		}
	}
	return true
}
