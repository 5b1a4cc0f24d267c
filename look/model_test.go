package look_test

import (
	"fmt"
	"math"
	"slices"
	"testing"

	"lamella/api"
	"lamella/branch"
	"lamella/image"
	"lamella/look"
	"lamella/merge"
	"lamella/name"
	"lamella/tree"
)

// model is a stack as the chapter has it, word by word: the layers' trees, of which merge is asked. Files' bytes are left out of these, as they may not be read.
type model struct {
	layers []image.Branch
	trees  [][]api.Node
	all    [][]string     // the names that are in them
	kinds  map[string]int // by path, what kind has told, so that merge is asked once
}

func modelOf(s *look.Stack) model {
	m := model{layers: layersOf(s), kinds: map[string]int{}}
	for _, b := range m.layers {
		m.trees = append(m.trees, skeleton(b))
	}
	m.all = allNames(m.trees)
	return m
}

// skeleton is a branch's tree, gathered level by level; the Inos are refs.
func skeleton(b image.Branch) []api.Node {
	l := []api.Node{{Ino: b.Root(), Kind: api.Dir, Opaque: branch.Opaque(b, b.Root())}}
	for i := 0; i < len(l); i++ {
		ref, names := l[i].Ino, l[i].Names
		l[i].Target, _ = b.Target(ref)
		entries, _ := b.List(ref)
		for _, x := range entries {
			l = append(l, api.Node{Names: slices.Concat(names, []string{x.Name}), Ino: x.Ref, Kind: x.Kind, Opaque: branch.Opaque(b, x.Ref)})
		}
	}
	return l
}

// spots is P20.1.
func (m model) spots(names []string) ([]look.Spot, api.Errno) {
	var l []look.Spot
	for _, i := range merge.Sources(m.trees, names) {
		ref, e := image.Find(m.layers[i], names)
		if e != api.OK {
			panic("a source without the names")
		}
		l = append(l, look.Spot{Layer: i, Ref: ref})
	}
	if len(l) > 0 {
		return l, api.OK
	}
	for i := 1; i < len(names); i++ {
		if kind := m.kind(names[:i]); kind != 0 && kind != api.Dir {
			return nil, api.ErrNotDir
		}
	}
	return nil, api.ErrNone
}

// kind is that of what merge.Top tells; 0, if it tells of none.
func (m model) kind(names []string) int {
	path := name.Join(names)
	if kind, known := m.kinds[path]; known {
		return kind
	}
	m.kinds[path] = 0
	if layer, i := merge.Top(m.trees, names); layer >= 0 {
		m.kinds[path] = m.trees[layer][i].Kind
	}
	return m.kinds[path]
}

// first is the branch and the ref of the first spot.
func (m model) first(names []string) (image.Branch, int, api.Errno) {
	l, e := m.spots(names)
	if e != api.OK {
		return nil, 0, e
	}
	return m.layers[l[0].Layer], l[0].Ref, api.OK
}

// list is P20.2's List.
func (m model) list(names []string) ([]api.Entry, api.Errno) {
	if _, _, e := m.first(names); e != api.OK {
		return nil, e
	}
	if m.kind(names) != api.Dir {
		return nil, api.ErrNotDir
	}
	var l []api.Entry
	for _, n := range m.all {
		if len(n) == len(names)+1 && name.Below(n, names) && m.kind(n) != 0 {
			l = append(l, api.Entry{Name: n[len(names)], Kind: m.kind(n)})
		}
	}
	return l, api.OK
}

// stat is P20.2's Stat.
func (m model) stat(names []string) (api.Stat, api.Errno) {
	b, ref, e := m.first(names)
	if e != api.OK {
		return api.Stat{}, e
	}
	stat, e := b.Stat(ref)
	if l, e := m.list(names); e == api.OK {
		stat.Size = len(l)
	}
	return stat, e
}

// allNames is all names of all trees, each once, by rising names.
func allNames(trees [][]api.Node) [][]string {
	var l [][]string
	for _, nodes := range trees {
		for _, n := range nodes {
			l = append(l, n.Names)
		}
	}
	slices.SortFunc(l, slices.Compare[[]string])
	return slices.CompactFunc(l, slices.Equal)
}

// agrees holds all calls against the model, of all names that a layer has, and of others.
func agrees(t *testing.T, what string, s *look.Stack) {
	t.Helper()
	m := modelOf(s)
	for _, names := range m.all {
		for _, further := range [][]string{nil, {"none"}, {"a", "a", "b"}} {
			names := slices.Concat(names, further)
			where(t, what, s, m, names)
			tells(t, what, s, m, names)
		}
	}
	tellsTree(t, what, s)
}

// where holds Spots and Behind against the model.
func where(t *testing.T, what string, s *look.Stack, m model, names []string) {
	t.Helper()
	spots, e := s.Spots(names)
	if want, wantE := m.spots(names); !slices.Equal(spots, want) || e != wantE {
		t.Fatalf("%s: Spots of %q: %v, error %d; wanted %v, error %d\n%s", what, names, spots, e, want, wantE, shows(s))
	}
	if got, want := s.Behind(names), merge.Below(m.trees, names, 0); got != want {
		t.Fatalf("%s: Behind of %q: %t\n%s", what, names, got, shows(s))
	}
}

// tells holds Stat, List, Read, Target and Xattrs against the model.
func tells(t *testing.T, what string, s *look.Stack, m model, names []string) {
	t.Helper()
	stat, e := s.Stat(names)
	if want, wantE := m.stat(names); stat != want || e != wantE {
		t.Fatalf("%s: Stat of %q: %v, error %d; wanted %v, error %d\n%s", what, names, stat, e, want, wantE, shows(s))
	}
	l, e := s.List(names)
	if want, wantE := m.list(names); !slices.Equal(l, want) || e != wantE {
		t.Fatalf("%s: List of %q: %v, error %d; wanted %v, error %d\n%s", what, names, l, e, want, wantE, shows(s))
	}
	b, ref, e := m.first(names)
	for _, at := range [][2]int{{0, math.MaxInt}, {0, 0}, {-1, 1}, {3, 2}, {stat.Size, 1}, {stat.Size - 1, 9}, {stat.Size + 1, 1}, {0, -1}, {math.MinInt, math.MinInt}, {math.MaxInt, math.MaxInt}} {
		want, wantE := []byte(nil), e
		if e == api.OK {
			want, wantE = b.Read(ref, at[0], at[1])
		}
		if got, e := s.Read(names, at[0], at[1]); string(got) != string(want) || e != wantE {
			t.Fatalf("%s: Read of %q, %d, %d: %d bytes, error %d; wanted %d, error %d\n%s", what, names, at[0], at[1], len(got), e, len(want), wantE, shows(s))
		}
		if e != api.OK {
			break // it hangs on the names alone
		}
	}
	target, targetE := "", e
	xattrs, xattrsE := []api.Xattr(nil), e
	if e == api.OK {
		target, targetE = b.Target(ref)
		xattrs, xattrsE = b.Xattrs(ref)
	}
	if got, e := s.Target(names); got != target || e != targetE {
		t.Fatalf("%s: Target of %q: %q, error %d; wanted %q, error %d\n%s", what, names, got, e, target, targetE, shows(s))
	}
	if got, e := s.Xattrs(names); !sameXattrs(got, xattrs) || e != xattrsE {
		t.Fatalf("%s: Xattrs of %q: %q, error %d; wanted %q, error %d\n%s", what, names, got, e, xattrs, xattrsE, shows(s))
	}
}

// wantedTree is P20.3's Tree.
func wantedTree(s *look.Stack) ([]api.Node, api.Errno) {
	var trees [][]api.Node
	for _, b := range layersOf(s) {
		l, e := branch.Tree(b)
		if e != api.OK {
			return nil, e
		}
		trees = append(trees, l)
	}
	return merge.Merge(trees), api.OK
}

// tellsTree holds Tree against the model, and against what is told of all names.
func tellsTree(t *testing.T, what string, s *look.Stack) {
	t.Helper()
	got, e := s.Tree()
	want, wantE := wantedTree(s)
	if !sameNodes(got, want) || e != wantE {
		t.Fatalf("%s: Tree: error %d\n%s\nwanted: error %d\n%s\n%s", what, e, text(got), wantE, text(want), shows(s))
	}
	if e != api.OK {
		return
	}
	if all := gathered(t, s); !sameNodes(all, got) {
		t.Fatalf("%s: told is\n%s\nand Tree is\n%s\n%s", what, text(all), text(got), shows(s))
	}
	for _, names := range modelOf(s).all {
		if _, e := s.Spots(names); (e == api.OK) != (tree.Find(got, names) >= 0) {
			t.Fatalf("%s: Spots of %q: error %d, and Tree is\n%s\n%s", what, names, e, text(got), shows(s))
		}
	}
}

// gathered is what is told of all names that are told, from the root on: as a tree, with a number for each first spot.
func gathered(t *testing.T, s *look.Stack) []api.Node {
	t.Helper()
	var l []api.Node
	inos := map[look.Spot]int{}
	var visit func(names []string, kind int)
	visit = func(names []string, kind int) {
		spots, e1 := s.Spots(names)
		stat, e2 := s.Stat(names)
		xattrs, e3 := s.Xattrs(names)
		if e1 != api.OK || e2 != api.OK || e3 != api.OK || stat.Kind != kind {
			t.Fatalf("of %q is told: Spots: error %d, Stat: Kind %d, wanted %d, error %d, Xattrs: error %d\n%s", names, e1, stat.Kind, kind, e2, e3, shows(s))
		}
		if _, known := inos[spots[0]]; !known {
			inos[spots[0]] = len(inos) + 1
		}
		n := api.Node{Names: names, Ino: inos[spots[0]], Kind: stat.Kind, Attr: stat.Attr, Xattrs: xattrs}
		n.Data, _ = s.Read(names, 0, math.MaxInt)
		n.Target, _ = s.Target(names)
		l = append(l, n)
		entries, _ := s.List(names)
		if size := len(entries) + len(n.Data) + len(n.Target); stat.Size != size {
			t.Fatalf("%q has the Size %d, wanted %d\n%s", names, stat.Size, size, shows(s))
		}
		for _, x := range entries {
			visit(slices.Concat(names, []string{x.Name}), x.Kind)
		}
	}
	visit(nil, api.Dir)
	return l
}

// fewNodes is all trees of d, d/x and d/x/y that differ in what they hide.
func fewNodes() []string {
	l := []string{"", "d", "d@", "d-"}
	for _, d := range []string{"d/", "d!"} {
		l = append(l, d)
		for _, x := range []string{"d/x", "d/x-", "d/x/", "d/x!", "d/x/ d/x/y", "d/x! d/x/y", "d/x/ d/x/y-"} {
			l = append(l, d+" "+x)
		}
	}
	return l
}

// rows calls f with each row of so many of the layers.
func rows(layers []string, n int, f func(row []string)) {
	row := make([]string, n)
	var fill func(i int)
	fill = func(i int) {
		if i == n {
			f(row)
			return
		}
		for _, s := range layers {
			row[i] = s
			fill(i + 1)
		}
	}
	fill(0)
}

// TestAllRowsOfFewLayers: all stacks of one to three layers that have the same few names, or hide them.
func TestAllRowsOfFewLayers(t *testing.T) {
	for n := 1; n <= 2; n++ {
		rows(fewNodes(), n, func(row []string) { agrees(t, fmt.Sprintf("%q", row), stacked(t, row...)) })
	}
	few := []string{"", "d", "d-", "d! d/x", "d/ d/x-", "d/ d/x/ d/x/y", "d/ d/x@", "d/ d/x! d/x/a"}
	rows(few, 3, func(row []string) { agrees(t, fmt.Sprintf("%q", row), stacked(t, row...)) })
}

// TestAllRowsOfRoots: likewise, with roots that are Opaque and such that are not.
func TestAllRowsOfRoots(t *testing.T) {
	rows([]string{"", "!", "a", "! a/ a/b", "a-", "! a-", "a/"}, 3, func(row []string) { agrees(t, fmt.Sprintf("%q", row), stacked(t, row...)) })
	rows([]string{"", "!", "a- b", "a/ a/b"}, 4, func(row []string) { agrees(t, fmt.Sprintf("%q", row), stacked(t, row...)) })
}

// TestAnyStacks: trees of few names, several levels deep; it counts that there was something to be hidden, and something made of several layers.
func TestAnyStacks(t *testing.T) {
	hidden, links, many, behind := 0, 0, 0, 0
	for seed := range 300 {
		s := anyStack(t, seed)
		agrees(t, fmt.Sprint("stack ", seed), s)
		l, _ := s.Tree()
		for i, n := range l {
			if i > 0 && n.Ino <= l[i-1].Ino {
				links++
			}
			if spots, _ := s.Spots(n.Names); len(n.Names) > 1 && len(spots) > 2 {
				many++
			}
			if s.Behind(n.Names) {
				behind++
			}
		}
		hidden += len(modelOf(s).all) - len(l)
	}
	if hidden < 5000 || links < 300 || many < 30 || behind < 5000 {
		t.Errorf("%d names hidden, %d second names, %d of many layers, %d with something behind", hidden, links, many, behind)
	}
}
