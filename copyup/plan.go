package copyup

import (
	"lamella/api"
	"lamella/image"
	"lamella/look"
	"lamella/upper"
)

// plan is what is to be made, so that names are of the upper branch. It is told whole ahead of the first node that is made: what can't be read then changes nothing.
type plan struct {
	at    int        // the ref of what is there already
	nodes []api.Node // of the names behind it, each within the one ahead
}

func planned(s *look.Stack, names []string) (plan, api.Errno) {
	spots, e := s.Spots(names)
	if e != api.OK {
		return plan{}, e
	}
	if at, e := image.Find(s.Up, names); e == api.OK && spots[0] == (look.Spot{Layer: 0, Ref: at}) {
		return plan{at: at}, api.OK
	}
	p, e := planned(s, names[:len(names)-1]) // the root is of the upper branch, so that there is a name here
	if e != api.OK {
		return plan{}, e
	}
	n, e := told(s, names)
	if e != api.OK {
		return plan{}, e
	}
	p.nodes = append(p.nodes, n)
	return p, api.OK
}

// told is what is to be laid down of names; a new node is not Opaque, and has one name.
func told(s *look.Stack, names []string) (api.Node, api.Errno) {
	stat, e := s.Stat(names)
	if e != api.OK {
		return api.Node{}, e
	}
	n := api.Node{Kind: stat.Kind, Attr: stat.Attr}
	if n.Xattrs, e = s.Xattrs(names); e != api.OK {
		return api.Node{}, e
	}
	switch n.Kind {
	case api.Link:
		n.Target, e = s.Target(names)
	case api.File:
		if n.Data, e = s.Read(names, 0, stat.Size); e != api.OK {
			e = api.ErrIO
		}
	}
	return n, e
}

// leadsToDir leaves out what is there already: of that the upper branch tells as something is made in it.
func (p plan) leadsToDir() bool {
	last := len(p.nodes) - 1
	return last < 0 || p.nodes[last].Kind == api.Dir
}

// lay makes the nodes, with the last ones of these names: the ref of the last one.
func (p plan) lay(u *upper.Upper, names []string) (int, api.Errno) {
	at, names := p.at, names[len(names)-len(p.nodes):]
	for i, n := range p.nodes {
		ref, e := u.Make(at, names[i], n)
		if e != api.OK {
			return 0, e
		}
		at = ref
	}
	return at, api.OK
}
