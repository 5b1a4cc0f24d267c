package copyup_test

import (
	"fmt"
	"slices"
	"testing"

	"lamella/api"
	"lamella/branch"
	"lamella/copyup"
	"lamella/image"
	"lamella/look"
	"lamella/merge"
	"lamella/tree"
)

// model is a stack as the chapter has it, word by word: the layers' trees. A call puts nodes into the first one, or takes one out.
type model struct{ trees [][]api.Node }

func modelOf(t *testing.T, s *look.Stack) *model {
	t.Helper()
	m := &model{}
	for _, b := range layersOf(s) {
		l, e := branch.Tree(b)
		if e != api.OK {
			t.Fatalf("Tree: error %d", e)
		}
		m.trees = append(m.trees, l)
	}
	return m
}

func (m *model) clone() *model {
	return &model{append([][]api.Node{slices.Clone(m.trees[0])}, m.trees[1:]...)}
}

// kind is that of what names name; 0, if that is none.
func (m *model) kind(names []string) int {
	if layer, i := merge.Top(m.trees, names); layer >= 0 {
		return m.trees[layer][i].Kind
	}
	return 0
}

// spotsError is P20.1's.
func (m *model) spotsError(names []string) api.Errno {
	if m.kind(names) != 0 {
		return api.OK
	}
	for i := 1; i < len(names); i++ {
		if kind := m.kind(names[:i]); kind != 0 && kind != api.Dir {
			return api.ErrNotDir
		}
	}
	return api.ErrNone
}

// put keeps the upper branch's tree in its order; each node that comes is one by itself.
func (m *model) put(n api.Node) {
	n.Opaque, n.Ino = false, 1<<20+len(m.trees[0])
	for slices.ContainsFunc(m.trees[0], func(other api.Node) bool { return other.Ino == n.Ino }) {
		n.Ino++
	}
	m.trees[0] = append(m.trees[0], n)
	slices.SortFunc(m.trees[0], func(a, b api.Node) int { return slices.Compare(a.Names, b.Names) })
}

func (m *model) up(names []string) api.Errno {
	if e := m.spotsError(names); e != api.OK {
		return e
	}
	layer, i := merge.Top(m.trees, names)
	if layer == 0 {
		return api.OK
	}
	if e := m.up(names[:len(names)-1]); e != api.OK {
		return e
	}
	m.put(m.trees[layer][i])
	return api.OK
}

func (m *model) mark(names []string) api.Errno {
	if tree.Find(m.trees[0], names) >= 0 {
		return api.ErrExists
	}
	ahead := names[:len(names)-1]
	if e := m.spotsError(ahead); e != api.OK {
		return e
	}
	if m.kind(ahead) != api.Dir {
		return api.ErrNotDir
	}
	m.up(ahead)
	m.put(api.Node{Names: names, Kind: api.White})
	return api.OK
}

func (m *model) clear(names []string) bool {
	i := tree.Find(m.trees[0], names)
	if i < 0 || m.trees[0][i].Kind != api.White {
		return false
	}
	m.trees[0] = slices.Delete(m.trees[0], i, i+1)
	return true
}

// numbered has the Inos 1, 2, .. as they come first.
func numbered(l []api.Node) []api.Node {
	l = slices.Clone(l)
	inos := map[int]int{}
	for i, n := range l {
		if inos[n.Ino] == 0 {
			inos[n.Ino] = len(inos) + 1
		}
		l[i].Ino = inos[n.Ino]
	}
	return l
}

// call is one of the three, of names.
type call struct {
	what  string
	names []string
}

// both asks a stack and its model, and tells what each answers.
func (c call) both(s *look.Stack, m *model) (got, want string) {
	switch c.what {
	case "Up":
		ref, e := copyup.Up(s, c.names)
		got = fmt.Sprintf("ref %d, error %d", ref, e)
		wantE := m.up(c.names)
		at := 0
		if wantE == api.OK {
			at, _ = image.Find(s.Up, c.names)
		}
		want = fmt.Sprintf("ref %d, error %d", at, wantE)
	case "Mark":
		got, want = fmt.Sprintf("error %d", copyup.Mark(s, c.names)), fmt.Sprintf("error %d", m.mark(c.names))
	case "Clear":
		was, e := copyup.Clear(s, c.names)
		got, want = fmt.Sprintf("%t, error %d", was, e), fmt.Sprintf("%t, error %d", m.clear(c.names), api.OK)
	}
	return got, want
}

// agrees asks both, and holds the upper branch, and what it takes, against the model.
func (c call) agrees(t *testing.T, what string, s *look.Stack, m *model) {
	t.Helper()
	if got, want := c.both(s, m); got != want {
		t.Fatalf("%s: %s of %q: %s; wanted %s\n%s", what, c.what, c.names, got, want, shows(s))
	}
	got, want := above(t, s), numbered(m.trees[0])
	if !sameNodes(got, want) {
		t.Fatalf("%s: %s of %q: above is\n%s\nwanted\n%s\n%s", what, c.what, c.names, text(got), text(want), shows(s))
	}
	nodes := slices.MaxFunc(want, func(a, b api.Node) int { return a.Ino - b.Ino }).Ino
	if used, want := s.Up.Used(), (api.Quota{Nodes: nodes, Bytes: cost(want)}); used != want {
		t.Fatalf("%s: %s of %q: Used %+v, wanted %+v\n%s", what, c.what, c.names, used, want, shows(s))
	}
}

// merged holds the stack's Tree, and the other layers, against the model.
func merged(t *testing.T, what string, s *look.Stack, m *model) {
	t.Helper()
	got, e := s.Tree()
	if want := merge.Merge(m.trees); !sameNodes(got, want) || e != api.OK {
		t.Fatalf("%s: Tree: error %d\n%s\nwanted\n%s\n%s", what, e, text(got), text(want), shows(s))
	}
	for i, b := range s.Low {
		if l, e := branch.Tree(b); !sameNodes(l, m.trees[i+1]) || e != api.OK {
			t.Fatalf("%s: layer %d, error %d, is\n%s\nand was\n%s", what, i+1, e, text(l), text(m.trees[i+1]))
		}
	}
}

// calls is each of the three, of each of the paths; nothing is said of a Mark of no names.
func calls(paths ...string) []call {
	var l []call
	for _, what := range []string{"Up", "Mark", "Clear"} {
		for _, path := range paths {
			if what != "Mark" || path != "" {
				l = append(l, call{what, named(path)})
			}
		}
	}
	return l
}

// fewNodes is all trees of d, d/x and d/x/y that differ in what they hide.
func fewNodes() []string {
	l := []string{"", "d", "d@", "d-"}
	for _, d := range []string{"d/", "d!"} {
		l = append(l, d)
		for _, x := range []string{"d/x", "d/x-", "d/x/", "d/x!", "d/x/ d/x/y", "d/x! d/x/y", "d/x/ d/x/y-"} {
			l = append(l, d+" "+x)
		}
	}
	return l
}

// rows calls f with each row of so many of the items.
func rows[T any](items []T, n int, f func(row []T)) {
	row := make([]T, n)
	var fill func(i int)
	fill = func(i int) {
		if i == n {
			f(row)
			return
		}
		for _, x := range items {
			row[i] = x
			fill(i + 1)
		}
	}
	fill(0)
}

// eachCall asks each call of a clone.
func eachCall(t *testing.T, what string, s *look.Stack, l []call) {
	t.Helper()
	m := modelOf(t, s)
	for _, c := range l {
		s, m := cloned(s), m.clone()
		c.agrees(t, what, s, m)
		merged(t, what, s, m)
	}
}

// TestAllRowsOfFewLayers: each call, of stacks of one to three layers that have the same few names, or hide them.
func TestAllRowsOfFewLayers(t *testing.T) {
	l := calls("", "d", "d/x", "d/x/y", "d/x/n", "d/n", "d/n/y", "n", "n/x", "d/x/y/n")
	for n := 1; n <= 2; n++ {
		rows(fewNodes(), n, func(row []string) { eachCall(t, fmt.Sprintf("%q", row), stacked(t, row...), l) })
	}
	few := []string{"", "d", "d-", "d! d/x", "d/ d/x-", "d/ d/x/ d/x/y", "d/ d/x@", "d/ d/x! d/x/a"}
	rows(few, 3, func(row []string) {
		eachCall(t, fmt.Sprintf("%q", row), stacked(t, row...), calls("d", "d/x", "d/x/y"))
	})
}

// TestAllRowsOfCalls: all rows of three calls.
func TestAllRowsOfCalls(t *testing.T) {
	l := calls("d", "d/x", "d/x/y", "n")
	for _, layers := range [][]string{
		{"", "d/ d/x/ d/x/y"},
		{"", "d/ d/x n", "d/ d/x/ d/x/y"},
		{"d/ d/x- n-", "d/ d/x/ d/x/y n"},
		{"d!", "d/ d/x n@"},
	} {
		s := stacked(t, layers...)
		first := modelOf(t, s)
		rows(l, 3, func(row []call) {
			s, m := cloned(s), first.clone()
			for _, c := range row {
				c.agrees(t, fmt.Sprintf("%q, calls %q", layers, row), s, m)
			}
			merged(t, fmt.Sprintf("%q, calls %q", layers, row), s, m)
		})
	}
}

// someNames is names of a layer, at times with others behind.
func someNames(c *chance, m *model) []string {
	names := pick(c, pick(c, m.trees...)...).Names
	for c.below(4) == 0 {
		names = slices.Concat(names, []string{pick(c, "a", "b", "none")})
	}
	return names
}

// change is a call of the upper branch, which leaves a tree that may be; whether it does something is left to chance.
func change(c *chance, s *look.Stack, m *model) {
	names := pick(c, m.trees[0]...).Names
	if len(names) == 0 {
		return
	}
	dir, _ := image.Find(s.Up, names[:len(names)-1])
	ref, _ := image.Find(s.Up, names)
	last := names[len(names)-1]
	switch c.below(6) {
	case 0:
		s.Up.Remove(dir, last)
	case 1:
		s.Up.SetOpaque(ref, c.below(2) == 0)
	case 2:
		s.Up.Write(ref, c.below(5), []byte("written"))
	case 3:
		s.Up.Move(dir, last, 1, pick(c, "a", "b", "c"))
	case 4:
		if stat, _ := s.Up.Stat(ref); stat.Kind != api.White {
			s.Up.Link(1, pick(c, "a", "b", "c"), ref)
		}
	case 5:
		s.Up.Make(dir, pick(c, "a", "b", "c"), anyNode(c, nil, pick(c, api.Dir, api.File, api.White), false))
	}
}

// TestRowsOfCalls: of any stacks, with calls of the upper branch between.
func TestRowsOfCalls(t *testing.T) {
	done := map[string]int{}
	for seed := range 300 {
		s := anyStack(t, seed)
		c := chance(seed + 1000)
		m := modelOf(t, s)
		for i := range 30 {
			next := call{pick(&c, "Up", "Up", "Mark", "Clear"), someNames(&c, m)}
			if next.what == "Mark" && len(next.names) == 0 {
				continue
			}
			before := len(m.trees[0])
			next.agrees(t, fmt.Sprintf("stack %d, call %d", seed, i), s, m)
			if len(m.trees[0]) != before {
				done[next.what]++
			}
			if c.below(4) == 0 {
				change(&c, s, m)
				m = modelOf(t, s)
			}
		}
		merged(t, fmt.Sprint("stack ", seed), s, m)
	}
	if done["Up"] < 500 || done["Mark"] < 400 || done["Clear"] < 100 {
		t.Errorf("calls that did something: %v", done)
	}
}
