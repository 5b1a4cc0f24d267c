package tree

import (
	"slices"
	"strings"

	"lamella/api"
	"lamella/name"
)

// Find is the node of some names, Kids are those within a directory.
func Find(l []api.Node, names []string) int {
	return slices.IndexFunc(l, func(n api.Node) bool { return name.Same(n.Names, names) })
}

func Kids(l []api.Node, names []string) []int {
	var kids []int
	for i, n := range l {
		if len(n.Names) == len(names)+1 && name.Below(n.Names, names) {
			kids = append(kids, i)
		}
	}
	slices.SortStableFunc(kids, func(i, j int) int {
		return strings.Compare(l[i].Names[len(names)], l[j].Names[len(names)])
	})
	return kids
}

// Links is how many nodes are one with the i-th.
func Links(l []api.Node, i int) int {
	if i < 0 || i >= len(l) {
		return 0
	}
	links := 0
	for _, n := range l {
		if n.Ino == l[i].Ino {
			links++
		}
	}
	return links
}
