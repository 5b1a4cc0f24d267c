package look

import (
	"slices"

	"lamella/api"
	"lamella/branch"
	"lamella/merge"
)

// pile is what stands in the layers at one row of names. Merge is asked of small trees that have nothing else, in place of the whole ones: to gather these for each call would mean to read all files.
type pile struct {
	names []string     // in the trees: none of the root, else the last one of the row
	trees [][]api.Node // of each layer: a root alone, where nothing is, or where the directory is not made of the layer
	refs  []int        // of what stands there
}

// pile goes from the root on, name by name: the layers that a directory is made of are asked for the next one.
func (s *Stack) pile(names []string) (pile, api.Errno) {
	p := s.roots()
	for _, n := range names {
		dir, e := p.spots()
		if e != api.OK {
			return pile{}, e
		}
		if p.kind(dir[0].Layer) != api.Dir {
			return pile{}, api.ErrNotDir
		}
		if p, e = s.below(dir, n); e != api.OK {
			return pile{}, e
		}
	}
	return p, api.OK
}

func (s *Stack) roots() pile {
	var p pile
	for i := range s.depth() {
		b := s.layer(i)
		root := api.Node{Ino: 1, Kind: api.Dir, Opaque: branch.Opaque(b, b.Root())}
		p.trees = append(p.trees, []api.Node{root})
		p.refs = append(p.refs, b.Root())
	}
	return p
}

// below is what stands in a directory at a name.
func (s *Stack) below(dir []Spot, name string) (pile, api.Errno) {
	root := api.Node{Ino: 1, Kind: api.Dir}
	p := pile{
		names: []string{name},
		trees: slices.Repeat([][]api.Node{{root}}, s.depth()),
		refs:  make([]int, s.depth()),
	}
	for _, d := range dir {
		b := s.layer(d.Layer)
		x, e := b.Look(d.Ref, name)
		if e == api.ErrNone {
			continue
		}
		if e != api.OK {
			return pile{}, e
		}
		n := api.Node{Names: p.names, Ino: 2, Kind: x.Kind, Opaque: branch.Opaque(b, x.Ref)}
		if x.Kind == api.Link {
			n.Target = "." // whatever it is: a tree in which a link has none may not be
		}
		p.trees[d.Layer] = []api.Node{root, n}
		p.refs[d.Layer] = x.Ref
	}
	return p, api.OK
}

// spots are those of what the pile comes to.
func (p pile) spots() ([]Spot, api.Errno) {
	var l []Spot
	for _, layer := range merge.Sources(p.trees, p.names) {
		l = append(l, Spot{layer, p.refs[layer]})
	}
	if len(l) == 0 {
		return nil, api.ErrNone
	}
	return l, api.OK
}

// kind is that of what stands in a layer.
func (p pile) kind(layer int) int {
	tree := p.trees[layer]
	return tree[len(tree)-1].Kind
}
