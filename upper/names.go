package upper

import "lamella/api"

// Make, Link, Remove and Move change names.
func (u *Upper) Make(dir int, s string, n api.Node) (int, api.Errno) {
	d, e := u.place(dir, s)
	if e != api.OK {
		return 0, e
	}
	if !mayBe(n) {
		return 0, api.ErrArg
	}
	u.last++
	u.nodes[u.last] = made(n, dir)
	d.entries[s] = u.last
	return u.last, api.OK
}

func (u *Upper) Link(dir int, s string, ref int) api.Errno {
	n, ok := u.nodes[ref]
	if !ok {
		return api.ErrArg
	}
	d, e := u.place(dir, s)
	if e != api.OK {
		return e
	}
	if n.Kind == api.Dir {
		return api.ErrIsDir
	}
	d.entries[s] = ref
	n.links++
	return api.OK
}

func (u *Upper) Remove(dir int, s string) api.Errno {
	d, e := u.dir(dir)
	if e != api.OK {
		return e
	}
	ref, found := d.entries[s]
	if !found {
		return api.ErrNone
	}
	if u.isFull(u.nodes[ref]) {
		return api.ErrFull
	}
	u.drop(d, s)
	return api.OK
}

func (u *Upper) Move(dir int, s string, to int, now string) api.Errno {
	if _, ok := u.nodes[to]; !ok { // ahead of what is told of dir
		return api.ErrArg
	}
	from, e := u.dir(dir)
	if e != api.OK {
		return e
	}
	into, e := u.dir(to)
	if e != api.OK {
		return e
	}
	ref, found := from.entries[s]
	if !found {
		return api.ErrNone
	}
	if e := into.free(now); e != api.OK {
		return e
	}
	n := u.nodes[ref]
	if n.Kind == api.Dir && u.leadsTo(ref, to) {
		return api.ErrLoop
	}
	delete(from.entries, s)
	into.entries[now] = ref
	if n.Kind == api.Dir {
		n.parent = to
	}
	return api.OK
}

// place is a directory into which something may be put as s.
func (u *Upper) place(dir int, s string) (*node, api.Errno) {
	d, e := u.dir(dir)
	if e != api.OK {
		return nil, e
	}
	return d, d.free(s)
}

// isFull is whether something that is no mark is within; what is no directory has no entries.
func (u *Upper) isFull(n *node) bool {
	for _, ref := range n.entries {
		if u.nodes[ref].Kind != api.White {
			return true
		}
	}
	return false
}

// drop takes a name off; a node without another one is gone. What is within it then are marks, of which each may have a name elsewhere.
func (u *Upper) drop(d *node, s string) {
	ref := d.entries[s]
	delete(d.entries, s)
	n := u.nodes[ref]
	n.links--
	if n.links > 0 {
		return
	}
	for mark := range n.entries {
		u.drop(n, mark)
	}
	delete(u.nodes, ref)
}

// leadsTo is whether a directory is another one, or has it somewhere below.
func (u *Upper) leadsTo(above, dir int) bool {
	for dir != above && dir != root {
		dir = u.nodes[dir].parent
	}
	return dir == above
}
