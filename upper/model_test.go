package upper_test

import (
	"fmt"
	"slices"
	"strings"
	"testing"

	"lamella/api"
	"lamella/name"
	"lamella/table"
	"lamella/upper"
)

// P17.6, and all of P17.1 to P17.5 together: a branch is held against the chapter taken word by word, over rows of calls.

// thing is a node of the model, naming a name of one in a directory. The model has a row of each, and works all else out as it is asked for.
type thing struct {
	ref    int
	kind   int
	attr   api.Attr
	data   string
	target string
	xattrs []api.Xattr
	opaque bool
}

type naming struct {
	dir int
	s   string
	ref int
}

type model struct {
	quota  api.Quota
	things []thing
	names  []naming
	last   int
}

func newModel(q api.Quota) *model {
	return &model{quota: q, things: []thing{{ref: 1, kind: api.Dir, attr: api.Attr{Mode: 493}}}, last: 1}
}

func (m *model) clone() *model {
	return &model{quota: m.quota, things: slices.Clone(m.things), names: slices.Clone(m.names), last: m.last}
}

// at is the place of a ref's thing; -1, if it is no node's.
func (m *model) at(ref int) int {
	return slices.IndexFunc(m.things, func(x thing) bool { return x.ref == ref })
}

// kind is 0 of a ref that is no node's.
func (m *model) kind(ref int) int {
	if i := m.at(ref); i >= 0 {
		return m.things[i].kind
	}
	return 0
}

func (m *model) named(dir int, s string) int {
	return slices.IndexFunc(m.names, func(x naming) bool { return x.dir == dir && x.s == s })
}

func (m *model) put(dir int, s string) api.Errno {
	if m.kind(dir) != api.Dir {
		return api.ErrNotDir
	}
	if e := name.Valid(s); e != api.OK {
		return e
	}
	if m.named(dir, s) >= 0 {
		return api.ErrExists
	}
	return api.OK
}

func attrMay(a api.Attr) bool {
	return a.Mode >= 0 && a.Mode <= 511 && a.Uid >= 0 && a.Uid <= 65535 && a.Gid >= 0 && a.Gid <= 65535
}

func may(n api.Node) bool {
	if n.Kind == api.White {
		return n.Attr == (api.Attr{}) && len(n.Data) == 0 && n.Target == "" && len(n.Xattrs) == 0
	}
	if !attrMay(n.Attr) || !table.MayXattrs(n.Xattrs) || n.Kind < 1 || n.Kind > 3 {
		return false
	}
	if n.Kind != api.File && len(n.Data) > 0 || n.Kind != api.Link && n.Target != "" {
		return false
	}
	return len(n.Data) <= 4096 && len(n.Target) <= 200 && !strings.Contains(n.Target, "\x00") && (n.Kind != api.Link || n.Target != "")
}

func (m *model) make(dir int, s string, n api.Node) (int, api.Errno) {
	if m.at(dir) < 0 {
		return 0, api.ErrArg
	}
	if e := m.put(dir, s); e != api.OK {
		return 0, e
	}
	if !may(n) {
		return 0, api.ErrArg
	}
	m.last++
	m.things = append(m.things, thing{m.last, n.Kind, n.Attr, string(n.Data), n.Target, n.Xattrs, false})
	m.names = append(m.names, naming{dir, s, m.last})
	return m.last, api.OK
}

func (m *model) link(dir int, s string, ref int) api.Errno {
	if m.at(dir) < 0 || m.at(ref) < 0 {
		return api.ErrArg
	}
	if e := m.put(dir, s); e != api.OK {
		return e
	}
	if m.kind(ref) == api.Dir {
		return api.ErrIsDir
	}
	m.names = append(m.names, naming{dir, s, ref})
	return api.OK
}

func (m *model) remove(dir int, s string) api.Errno {
	if m.at(dir) < 0 {
		return api.ErrArg
	}
	if m.kind(dir) != api.Dir {
		return api.ErrNotDir
	}
	i := m.named(dir, s)
	if i < 0 {
		return api.ErrNone
	}
	for _, x := range m.names {
		if x.dir == m.names[i].ref && m.kind(x.ref) != api.White {
			return api.ErrFull
		}
	}
	m.names = slices.Delete(m.names, i, i+1)
	m.sweep()
	return api.OK
}

// sweep takes away what has no name, and names in what is gone, until nothing is left to be taken away.
func (m *model) sweep() {
	for {
		things, names := len(m.things), len(m.names)
		m.things = slices.DeleteFunc(m.things, func(x thing) bool { return x.ref != 1 && m.links(x.ref) == 0 })
		m.names = slices.DeleteFunc(m.names, func(x naming) bool { return m.at(x.dir) < 0 })
		if len(m.things) == things && len(m.names) == names {
			return
		}
	}
}

func (m *model) links(ref int) int {
	links := 0
	for _, x := range m.names {
		if x.ref == ref {
			links++
		}
	}
	return links
}

// below tells whether a directory is another one or below it, by all directories that stand in it.
func (m *model) below(dir, above int) bool {
	if dir == above {
		return true
	}
	return slices.ContainsFunc(m.names, func(x naming) bool { return x.dir == above && m.kind(x.ref) == api.Dir && m.below(dir, x.ref) })
}

func (m *model) move(dir int, s string, to int, now string) api.Errno {
	if m.at(dir) < 0 || m.at(to) < 0 {
		return api.ErrArg
	}
	if m.kind(dir) != api.Dir || m.kind(to) != api.Dir {
		return api.ErrNotDir
	}
	i := m.named(dir, s)
	if i < 0 {
		return api.ErrNone
	}
	if e := m.put(to, now); e != api.OK {
		return e
	}
	if ref := m.names[i].ref; m.kind(ref) == api.Dir && m.below(to, ref) {
		return api.ErrLoop
	}
	m.names[i] = naming{to, now, m.names[i].ref}
	return api.OK
}

// fileAt is the place of a file, and what is told of what is none.
func (m *model) fileAt(ref int) (int, api.Errno) {
	switch m.kind(ref) {
	case api.File:
		return m.at(ref), api.OK
	case api.Dir:
		return 0, api.ErrIsDir
	}
	return 0, api.ErrArg
}

func (m *model) write(ref, off int, b string) api.Errno {
	i, e := m.fileAt(ref)
	if e != api.OK {
		return e
	}
	if off < 0 {
		return api.ErrArg
	}
	if off > 4096 || off+len(b) > 4096 {
		return api.ErrBig
	}
	m.things[i].data = written(m.things[i].data, off, b)
	return api.OK
}

func (m *model) resize(ref, n int) api.Errno {
	i, e := m.fileAt(ref)
	if e != api.OK {
		return e
	}
	if n < 0 {
		return api.ErrArg
	}
	if n > 4096 {
		return api.ErrBig
	}
	m.things[i].data = resized(m.things[i].data, n)
	return api.OK
}

func (m *model) setAttr(ref int, a api.Attr) api.Errno {
	if m.at(ref) < 0 || !attrMay(a) || m.kind(ref) == api.White {
		return api.ErrArg
	}
	m.things[m.at(ref)].attr = a
	return api.OK
}

func (m *model) setXattrs(ref int, l []api.Xattr) api.Errno {
	if m.at(ref) < 0 || !table.MayXattrs(l) || m.kind(ref) == api.White {
		return api.ErrArg
	}
	m.things[m.at(ref)].xattrs = l
	return api.OK
}

func (m *model) setOpaque(ref int, on bool) api.Errno {
	if m.at(ref) < 0 {
		return api.ErrArg
	}
	if m.kind(ref) != api.Dir {
		return api.ErrNotDir
	}
	m.things[m.at(ref)].opaque = on
	return api.OK
}

// all is what upper's all is, of the model.
func (m *model) all(last int) string {
	var s strings.Builder
	q := api.Quota{Nodes: len(m.things)}
	for _, x := range m.names {
		q.Bytes += len(x.s)
	}
	for _, x := range m.things {
		q.Bytes += 64 + len(x.data) + len(x.target)
		for _, a := range x.xattrs {
			q.Bytes += len(a.Name) + len(a.Value)
		}
	}
	for ref := -1; ref <= last; ref++ {
		var stat api.Stat
		var list []api.Entry
		var x thing
		e := []api.Errno{api.ErrArg, api.ErrArg, api.ErrArg, api.ErrArg, api.ErrArg}
		if i := m.at(ref); i >= 0 {
			x = m.things[i]
			list = m.list(ref)
			stat = api.Stat{Kind: x.kind, Attr: x.attr, Links: max(m.links(ref), 1), Size: len(list) + len(x.data) + len(x.target)}
			e = map[int][]api.Errno{api.Dir: {0, 0, 25, 1, 0}, api.File: {0, 24, 0, 1, 0}, api.Link: {0, 24, 1, 0, 0}, api.White: {0, 24, 1, 1, 0}}[x.kind]
		}
		fmt.Fprintf(&s, "%d: %+v %v %q %q %q %v %v\n", ref, stat, list, x.data, x.target, x.xattrs, x.opaque, e)
	}
	fmt.Fprintf(&s, "%d %+v %v\n", 1, q, q.Nodes > m.quota.Nodes || q.Bytes > m.quota.Bytes)
	return s.String()
}

func (m *model) list(dir int) []api.Entry {
	var l []api.Entry
	for _, x := range m.names {
		if x.dir == dir {
			l = append(l, api.Entry{Name: x.s, Kind: m.kind(x.ref), Ref: x.ref})
		}
	}
	slices.SortFunc(l, func(a, b api.Entry) int { return strings.Compare(a.Name, b.Name) })
	return l
}

// pair is a branch, and the model of it.
type pair struct {
	u *upper.Upper
	m *model
}

func (p pair) clone() pair { return pair{p.u.Clone(), p.m.clone()} }

// agrees holds all that a branch tells against the model.
func (p pair) agrees(t *testing.T, what string) {
	t.Helper()
	if got, want := all(p.u, p.m.last+2), p.m.all(p.m.last+2); got != want {
		t.Fatalf("%s: told is\n%swanted\n%s", what, got, want)
	}
}

// chance is a row of numbers that comes again as it was.
type chance uint64

func (c *chance) next(n int) int {
	*c = *c*6364136223846793005 + 1442695040888963407
	return int(*c>>33) % n
}

func one[T any](c *chance, l ...T) T { return l[c.next(len(l))] }

// ref is of a node of one of these kinds, most of the time.
func (p pair) ref(c *chance, kinds ...int) int {
	var l []int
	for _, x := range p.m.things {
		if slices.Contains(kinds, x.kind) {
			l = append(l, x.ref)
		}
	}
	if len(l) == 0 || c.next(8) == 0 {
		return c.next(p.m.last+3) - 1
	}
	return one(c, l...)
}

// old is a name that is in a directory, most of the time.
func (p pair) old(c *chance, dir int) string {
	if l := p.m.list(dir); len(l) > 0 && c.next(5) > 0 {
		return one(c, l...).Name
	}
	return fresh(c)
}

// fresh is a name, most of the time.
func fresh(c *chance) string {
	return one(c, "a", "b", "c", "d", "e", "ab", "B", "f", "g", "h", one(c, "", "..", "a/b"), strings.Repeat("n", 255+c.next(2)))
}

func someAttr(c *chance) api.Attr {
	return api.Attr{Mode: one(c, 0, 7, 511, one(c, 512, 0)), Uid: one(c, 0, 1, 65535), Gid: one(c, 0, 0, 0, one(c, -1, 0))}
}

func someXattrs(c *chance) []api.Xattr {
	return one(c, nil, []api.Xattr{xattr("a", "1")}, []api.Xattr{xattr("a", ""), xattr("b", "22")}, one(c, nil, []api.Xattr{xattr("b", ""), xattr("a", "")}))
}

func someNode(c *chance) api.Node {
	n := one(c, dir(), dir(), file(""), file("hi"), link("to"), white(), white(), one(c, link(""), api.Node{}, attributed(white(), xattr("a", "")), api.Node{Kind: api.Dir, Opaque: true}))
	if n.Kind != api.White && c.next(2) == 0 {
		n.Attr, n.Xattrs = someAttr(c), someXattrs(c)
	}
	return n
}

// step does some call of both.
func (p pair) step(c *chance) (what string, got, want api.Errno) {
	d, s, anyRef := p.ref(c, api.Dir), fresh(c), p.ref(c, api.Dir, api.File, api.Link, api.White)
	f := p.ref(c, api.File)
	switch c.next(20) {
	case 0, 1, 2:
		ref := p.ref(c, api.File, api.Link, api.White)
		return fmt.Sprintf("Link(%d, %.9q, %d)", d, s, ref), p.u.Link(d, s, ref), p.m.link(d, s, ref)
	case 3, 4, 5:
		s = p.old(c, d)
		return fmt.Sprintf("Remove(%d, %.9q)", d, s), p.u.Remove(d, s), p.m.remove(d, s)
	case 6, 7, 8:
		from, to := p.old(c, d), p.ref(c, api.Dir)
		return fmt.Sprintf("Move(%d, %.9q, %d, %.9q)", d, from, to, s), p.u.Move(d, from, to, s), p.m.move(d, from, to, s)
	case 9, 10:
		off, b := one(c, -1, 0, 1, 3, 9, 4095, 4096, 4097), one(c, "", "x", "xyz", "\x00")
		return fmt.Sprintf("Write(%d, %d, %q)", f, off, b), p.u.Write(f, off, []byte(b)), p.m.write(f, off, b)
	case 11, 12:
		n := one(c, -1, 0, 1, 2, 5, 4096, 4097)
		return fmt.Sprintf("Resize(%d, %d)", f, n), p.u.Resize(f, n), p.m.resize(f, n)
	case 13:
		a := someAttr(c)
		return fmt.Sprintf("SetAttr(%d, %+v)", anyRef, a), p.u.SetAttr(anyRef, a), p.m.setAttr(anyRef, a)
	case 14:
		l := someXattrs(c)
		return fmt.Sprintf("SetXattrs(%d, %q)", anyRef, l), p.u.SetXattrs(anyRef, l), p.m.setXattrs(anyRef, l)
	case 15:
		on := c.next(2) == 0
		return fmt.Sprintf("SetOpaque(%d, %v)", d, on), p.u.SetOpaque(d, on), p.m.setOpaque(d, on)
	}
	n := someNode(c)
	a, e := p.u.Make(d, s, n)
	b, w := p.m.make(d, s, n)
	return fmt.Sprintf("Make(%d, %.9q, %+v): %d, wanted %d", d, s, n, a, b), e + 1000*api.Errno(a), w + 1000*api.Errno(b)
}

// TestRowsOfCalls: branches and clones of them, of which each goes its own way.
func TestRowsOfCalls(t *testing.T) {
	for row := range 300 {
		c := chance(row)
		q := api.Quota{Nodes: 1 + row%8, Bytes: 64 * (1 + row%7)}
		pairs := []pair{{upper.New(q), newModel(q)}}
		for i := range 120 {
			p := pairs[c.next(len(pairs))]
			what, got, want := p.step(&c)
			what = fmt.Sprintf("row %d, step %d: %s", row, i, what)
			if got != want {
				t.Fatalf("%s: error %d, wanted %d", what, got, want)
			}
			p.agrees(t, what)
			if i%20 == 19 {
				pairs = append(pairs, p.clone())
			}
		}
		for i, p := range pairs {
			p.agrees(t, fmt.Sprintf("row %d, branch %d at the end", row, i))
			names(t, p.u)
		}
	}
}

// TestAllShortRows: each row of three of some calls that meet in few names, behind a node that is made.
func TestAllShortRows(t *testing.T) {
	made := func(dir int, s string, n api.Node) func(p pair) (api.Errno, api.Errno) {
		return func(p pair) (api.Errno, api.Errno) {
			a, e := p.u.Make(dir, s, n)
			b, f := p.m.make(dir, s, n)
			return e + 1000*api.Errno(a), f + 1000*api.Errno(b)
		}
	}
	linked := func(dir int, s string, ref int) func(p pair) (api.Errno, api.Errno) {
		return func(p pair) (api.Errno, api.Errno) { return p.u.Link(dir, s, ref), p.m.link(dir, s, ref) }
	}
	removed := func(dir int, s string) func(p pair) (api.Errno, api.Errno) {
		return func(p pair) (api.Errno, api.Errno) { return p.u.Remove(dir, s), p.m.remove(dir, s) }
	}
	moved := func(dir int, s string, to int, now string) func(p pair) (api.Errno, api.Errno) {
		return func(p pair) (api.Errno, api.Errno) { return p.u.Move(dir, s, to, now), p.m.move(dir, s, to, now) }
	}
	calls := []func(p pair) (api.Errno, api.Errno){
		made(1, "b", dir()), made(2, "a", white()), made(2, "b", file("x")), made(3, "a", dir()),
		linked(2, "a", 3), linked(1, "b", 3), linked(1, "c", 4),
		removed(1, "a"), removed(1, "b"), removed(2, "a"), removed(2, "b"),
		moved(1, "a", 3, "a"), moved(1, "b", 2, "b"), moved(2, "a", 1, "c"), moved(2, "b", 1, "b"), moved(1, "a", 1, "b"),
	}
	var visit func(p pair, left int, row []int)
	visit = func(p pair, left int, row []int) {
		p.agrees(t, fmt.Sprint("calls ", row))
		if left == 0 {
			return
		}
		for i, call := range calls {
			next := p.clone()
			if got, want := call(next); got != want {
				t.Fatalf("calls %v, then %d: error %d, wanted %d", row, i, got, want)
			}
			visit(next, left-1, append(slices.Clone(row), i))
		}
	}
	for _, n := range []api.Node{dir(), white(), file("x")} {
		p := pair{upper.New(much), newModel(much)}
		if e, f := made(1, "a", n)(p); e != f {
			t.Fatalf("error %d, wanted %d", e, f)
		}
		visit(p, 3, nil)
	}
}
