package image_test

import (
	"math"
	"slices"
	"strings"

	"lamella/api"
)

// call is one of a branch, by what it tells.
type call int

const (
	callStat call = iota
	callLook
	callList
	callRead
	callTarget
	callXattrs
	calls
)

// stranger is a branch of the tests' own, that is no image. Its refs are any numbers; what it hands out is what it keeps, with spare room behind; and its calls may tell errors.
type stranger struct {
	root  int
	nodes map[int]*thing
	fails map[failure]api.Errno
	loose bool // beside an error it tells what it has nevertheless
}

// thing is a node of a stranger.
type thing struct {
	stat   api.Stat
	list   []api.Entry
	data   []byte
	target string
	xattrs []api.Xattr
}

// failure is a call of one ref.
type failure struct {
	call call
	ref  int
}

// strange is a stranger that has the tree l; ref is what the things that are one, from 0 on in canonical order, have as ref.
func strange(l []api.Node, ref func(i int) int) *stranger {
	s := &stranger{root: ref(0), nodes: map[int]*thing{}, fails: map[failure]api.Errno{}}
	at := map[string]*thing{}
	for _, n := range l {
		r := ref(n.Ino - 1)
		x := s.nodes[r]
		if x == nil {
			x = thingOf(n)
			s.nodes[r] = x
		}
		x.stat.Links++
		at[strings.Join(n.Names, "/")] = x
		if last := len(n.Names) - 1; last >= 0 {
			within := at[strings.Join(n.Names[:last], "/")]
			within.list = append(within.list, api.Entry{Name: n.Names[last], Kind: n.Kind, Ref: r})
			within.stat.Size++
		}
	}
	return s
}

func thingOf(n api.Node) *thing {
	x := &thing{stat: api.Stat{Kind: n.Kind, Attr: n.Attr}, target: n.Target, data: roomy(n.Data, 0xee)}
	x.stat.Size = len(n.Data) + len(n.Target)
	x.xattrs = roomy(n.Xattrs, xattr("spare", "room"))
	for i := range x.xattrs {
		x.xattrs[i].Value = roomy(x.xattrs[i].Value, 0xee)
	}
	return x
}

// roomy is a copy with spare room that is not empty.
func roomy[T any](l []T, spare T) []T {
	out := slices.Concat(l, slices.Repeat([]T{spare}, 5))
	return out[:len(l)]
}

// refSchemes are ways to number the things of a tree.
func refSchemes() map[string]func(i int) int {
	return map[string]func(i int) int{
		"refs from 0 on":       func(i int) int { return i },
		"refs that fall":       func(i int) int { return 2000 - i },
		"refs below 0":         func(i int) int { return -1 - i },
		"refs below and above": func(i int) int { return (i - 3) * 1000 },
		"refs in no order":     func(i int) int { return i*7919%1031 - 500 },
		"the least refs":       func(i int) int { return math.MinInt + i },
		"the greatest refs":    func(i int) int { return math.MaxInt - i },
		"refs turned about":    func(i int) int { return ^i ^ i<<60 },
	}
}

// failing makes a call of one ref tell an error.
func (s *stranger) failing(c call, ref int, e api.Errno) { s.fails[failure{c, ref}] = e }

// failingAll makes a call of any ref do so.
func (s *stranger) failingAll(c call, e api.Errno) {
	for ref := range s.nodes {
		s.failing(c, ref, e)
	}
}

// thing is what a call has of a ref: nothing, if it tells an error and is not loose.
func (s *stranger) thing(c call, ref int) (thing, api.Errno) {
	x, found := s.nodes[ref]
	e := s.fails[failure{c, ref}]
	if !found {
		return thing{}, api.ErrArg
	}
	if e != api.OK && !s.loose {
		return thing{}, e
	}
	return *x, e
}

func (s *stranger) Root() int { return s.root }

func (s *stranger) Stat(ref int) (api.Stat, api.Errno) {
	x, e := s.thing(callStat, ref)
	return x.stat, e
}

func (s *stranger) Look(ref int, name string) (api.Entry, api.Errno) {
	x, e := s.thing(callLook, ref)
	if e == api.OK && x.stat.Kind != api.Dir {
		return api.Entry{}, api.ErrNotDir
	}
	i := slices.IndexFunc(x.list, func(y api.Entry) bool { return y.Name == name })
	switch {
	case i >= 0:
		return x.list[i], e
	case e != api.OK:
		return api.Entry{}, e
	}
	return api.Entry{}, api.ErrNone
}

func (s *stranger) List(ref int) ([]api.Entry, api.Errno) {
	x, e := s.thing(callList, ref)
	if e == api.OK && x.stat.Kind != api.Dir {
		return nil, api.ErrNotDir
	}
	return x.list, e
}

func (s *stranger) Read(ref, off, n int) ([]byte, api.Errno) {
	x, e := s.thing(callRead, ref)
	if e == api.OK && x.stat.Kind == api.Dir {
		return nil, api.ErrIsDir
	}
	if e == api.OK && (x.stat.Kind != api.File || off < 0 || n < 0) {
		return nil, api.ErrArg
	}
	from := min(max(off, 0), len(x.data))
	return x.data[from : from+min(max(n, 0), len(x.data)-from)], e
}

func (s *stranger) Target(ref int) (string, api.Errno) {
	x, e := s.thing(callTarget, ref)
	if e == api.OK && x.stat.Kind != api.Link {
		return "", api.ErrArg
	}
	return x.target, e
}

func (s *stranger) Xattrs(ref int) ([]api.Xattr, api.Errno) {
	x, e := s.thing(callXattrs, ref)
	return x.xattrs, e
}
