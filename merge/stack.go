package merge

import (
	"cmp"
	"slices"

	"lamella/api"
	"lamella/tree"
)

// place is where a node stands: the number of its layer, and its own number there.
type place struct{ layer, node int }

// stack is layers, the topmost first. Rows of places in it are of the same names, by rising layers.
type stack [][]api.Node

func (s stack) at(p place) api.Node { return s[p.layer][p.node] }

func (s stack) isDir(of []place) bool { return len(of) > 0 && s.at(of[0]).Kind == api.Dir }

// sources are the places of what names name: what the directory is made of, from the root on, tells where the next name is looked for.
func (s stack) sources(names []string) []place {
	all := make([]place, len(s))
	for i := range s {
		all[i].layer = i
	}
	of := s.made(s.find(all, nil))
	for i := range names {
		if !s.isDir(of) {
			return nil
		}
		of = s.made(s.find(of, names[:i+1]))
	}
	return of
}

// find is where names name something, of the layers that dir stands in.
func (s stack) find(dir []place, names []string) []place {
	var there []place
	for _, p := range dir {
		if node := tree.Find(s[p.layer], names); node >= 0 {
			there = append(there, place{p.layer, node})
		}
	}
	return there
}

// made is the part of a row of places that what stands there is made of.
func (s stack) made(there []place) []place {
	for i, p := range there {
		n := s.at(p)
		if n.Kind == api.Dir && !n.Opaque {
			continue
		}
		if n.Kind == api.Dir || i == 0 && n.Kind != api.White {
			return there[:i+1]
		}
		return there[:i]
	}
	return there
}

// together is the places of all nodes: a row for each names, by rising names.
func (s stack) together() [][]place {
	var all []place
	for i, l := range s {
		for k := range l {
			all = append(all, place{i, k})
		}
	}
	// A stable sort, so that the layers of the same names go on rising.
	slices.SortStableFunc(all, s.compare)
	var rows [][]place
	from := 0
	for i := range all {
		if i+1 == len(all) || s.compare(all[i], all[i+1]) != 0 {
			rows = append(rows, all[from:i+1])
			from = i + 1
		}
	}
	return rows
}

func (s stack) compare(a, b place) int { return slices.Compare(s.at(a).Names, s.at(b).Names) }

// ofLayers is those of a row of places that are of the layers of another one.
func ofLayers(there, dir []place) []place {
	var l []place
	for _, p := range there {
		if _, found := slices.BinarySearchFunc(dir, p.layer, againstLayer); found {
			l = append(l, p)
		}
	}
	return l
}

func againstLayer(p place, layer int) int { return cmp.Compare(p.layer, layer) }
