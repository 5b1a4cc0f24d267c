package upper

import "lamella/api"

// Used is what it takes, Over whether that is too much; Clone goes its own way.
func (u *Upper) Used() api.Quota {
	used := api.Quota{Nodes: len(u.nodes)}
	for _, n := range u.nodes {
		used.Bytes += n.cost()
	}
	return used
}

func (u *Upper) Over() bool {
	used := u.Used()
	return used.Nodes > u.quota.Nodes || used.Bytes > u.quota.Bytes
}

func (u *Upper) Clone() *Upper {
	c := &Upper{quota: u.quota, nodes: make(map[int]*node, len(u.nodes)), last: u.last}
	for ref, n := range u.nodes {
		c.nodes[ref] = n.clone()
	}
	return c
}
