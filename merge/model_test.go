package merge_test

import (
	"fmt"
	"maps"
	"slices"
	"strings"
	"testing"

	"lamella/api"
	"lamella/merge"
	"lamella/name"
)

// node is what these names name in a layer, and its number; -1, if it has none.
func node(l []api.Node, names []string) (api.Node, int) {
	for i, n := range l {
		if slices.Equal(n.Names, names) {
			return n, i
		}
	}
	return api.Node{}, -1
}

func has(l []api.Node, names []string) bool {
	_, i := node(l, names)
	return i >= 0
}

// slowSources is P19.1 word by word.
func slowSources(layers [][]api.Node, names []string) []int {
	var l []int
	if len(names) == 0 {
		for i, layer := range layers {
			l = append(l, i)
			if root, _ := node(layer, nil); root.Opaque {
				break
			}
		}
		return l
	}
	dir := names[:len(names)-1]
	of := slowSources(layers, dir)
	if len(of) == 0 {
		return nil
	}
	if n, _ := node(layers[of[0]], dir); n.Kind != api.Dir {
		return nil
	}
	for _, i := range of {
		if has(layers[i], names) {
			l = append(l, i)
		}
	}
	if len(l) == 0 {
		return nil
	}
	first, _ := node(layers[l[0]], names)
	if first.Kind == api.White {
		return nil
	}
	if first.Kind != api.Dir || first.Opaque {
		return l[:1]
	}
	for k, i := range l[1:] {
		n, _ := node(layers[i], names)
		if n.Kind != api.Dir {
			return l[:1+k]
		}
		if n.Opaque {
			return l[:2+k]
		}
	}
	return l
}

// slowTop and slowBelow are P19.2 word by word.
func slowTop(layers [][]api.Node, names []string) (int, int) {
	of := slowSources(layers, names)
	if len(of) == 0 {
		return -1, -1
	}
	_, i := node(layers[of[0]], names)
	return of[0], i
}

func slowBelow(layers [][]api.Node, names []string, layer int) bool {
	if len(names) == 0 {
		return false
	}
	for _, i := range slowSources(layers, names[:len(names)-1]) {
		if i > layer && has(layers[i], names) {
			return true
		}
	}
	return false
}

// slowMerge is P19.3 word by word.
func slowMerge(layers [][]api.Node) []api.Node {
	var l []api.Node
	for _, names := range allNames(layers) {
		if layer, i := slowTop(layers, names); layer >= 0 {
			n := layers[layer][i]
			n.Opaque = false
			n.Ino = layer<<32 + n.Ino // so that it is told apart from those of other layers
			l = append(l, n)
		}
	}
	return renumbered(l)
}

// spot is where a node that is seen stands.
type spot struct{ layer, node int }

// laid is what is seen of layers, by paths, worked out from the last one up: each one is laid over what is seen of those behind it.
func laid(layers [][]api.Node) map[string]spot {
	seen := map[string]spot{}
	for layer := len(layers) - 1; layer >= 0; layer-- {
		l := layers[layer]
		order := inOrder(l)
		for _, i := range order {
			n, path := l[i], name.Join(l[i].Names)
			if n.Kind != api.Dir || n.Opaque {
				below := strings.TrimSuffix(path, "/") + "/"
				maps.DeleteFunc(seen, func(s string, _ spot) bool { return strings.HasPrefix(s, below) })
			}
			delete(seen, path)
			if n.Kind != api.White {
				seen[path] = spot{layer, i}
			}
		}
	}
	return seen
}

// inOrder is the numbers of nodes by rising names.
func inOrder(l []api.Node) []int {
	order := make([]int, len(l))
	for i := range l {
		order[i] = i
	}
	slices.SortFunc(order, func(a, b int) int { return slices.Compare(l[a].Names, l[b].Names) })
	return order
}

// laidTree is the tree of what is seen.
func laidTree(layers [][]api.Node) []api.Node {
	var l []api.Node
	for _, at := range laid(layers) {
		n := layers[at.layer][at.node]
		n.Opaque = false
		n.Ino = at.layer<<32 + n.Ino
		l = append(l, n)
	}
	return canonical(l)
}

// agrees holds all calls against what the chapter says, of all names that a layer has, and of others.
func agrees(t *testing.T, what string, layers [][]api.Node) {
	t.Helper()
	seen := laid(layers)
	want := slowMerge(layers)
	if !sameNodes(want, laidTree(layers)) {
		t.Fatalf("%s: the models differ: %s\n%s\n%s", what, short(want), short(laidTree(layers)), shows(layers))
	}
	merges(t, what, layers, want)
	for _, names := range allNames(layers) {
		for _, names := range [][]string{names, slices.Concat(names, []string{"none"})} {
			answers(t, what, layers, names)
			at, found := seen[name.Join(names)]
			if layer, i := merge.Top(layers, names); found && (spot{layer, i}) != at || !found && (layer != -1 || i != -1) {
				t.Fatalf("%s: Top of %q is %d, %d; seen is %v, %t\n%s", what, names, layer, i, at, found, shows(layers))
			}
		}
	}
}

// answers holds Sources, Top and Below of these names against the chapter's words.
func answers(t *testing.T, what string, layers [][]api.Node, names []string) {
	t.Helper()
	if got, want := merge.Sources(layers, names), slowSources(layers, names); !slices.Equal(got, want) {
		t.Fatalf("%s: Sources of %q: %v, wanted %v\n%s", what, names, got, want, shows(layers))
	}
	layer, i := merge.Top(layers, names)
	if wantLayer, want := slowTop(layers, names); layer != wantLayer || i != want {
		t.Fatalf("%s: Top of %q: %d, %d, wanted %d, %d\n%s", what, names, layer, i, wantLayer, want, shows(layers))
	}
	for layer := -2; layer <= len(layers)+1; layer++ {
		if got, want := merge.Below(layers, names, layer), slowBelow(layers, names, layer); got != want {
			t.Fatalf("%s: Below of %q and the layer %d: %t\n%s", what, names, layer, got, shows(layers))
		}
	}
}

// fewNodes is all trees of d, d/x and d/x/y that differ in what they hide.
func fewNodes() []string {
	l := []string{"", "d", "d@", "d-"}
	for _, d := range []string{"d/", "d!"} {
		l = append(l, d)
		for _, x := range []string{"d/x", "d/x-", "d/x/", "d/x!", "d/x/ d/x/y", "d/x! d/x/y", "d/x/ d/x/y-"} {
			l = append(l, d+" "+x)
		}
	}
	return l
}

// rows calls f with each row of so many of the layers.
func rows(layers []string, n int, f func(row []string)) {
	row := make([]string, n)
	var fill func(i int)
	fill = func(i int) {
		if i == n {
			f(row)
			return
		}
		for _, s := range layers {
			row[i] = s
			fill(i + 1)
		}
	}
	fill(0)
}

// TestAllRowsOfFewLayers: all rows of one to three layers that have the same few names, or hide them.
func TestAllRowsOfFewLayers(t *testing.T) {
	for n := range 4 {
		rows(fewNodes(), n, func(row []string) { agrees(t, fmt.Sprintf("%q", row), layersOf(t, row...)) })
	}
}

// TestAllRowsOfRoots: likewise, with roots that are Opaque and such that are not.
func TestAllRowsOfRoots(t *testing.T) {
	layers := fewNodes()
	for _, s := range fewNodes() {
		layers = append(layers, "! "+s)
	}
	rows(layers, 2, func(row []string) { agrees(t, fmt.Sprintf("%q", row), layersOf(t, row...)) })
	rows([]string{"", "!", "a", "! a", "a-", "! a-", "a/", "a!"}, 4, func(row []string) { agrees(t, fmt.Sprintf("%q", row), layersOf(t, row...)) })
}

// TestRowsOfOneName: all rows of five layers of one name.
func TestRowsOfOneName(t *testing.T) {
	rows([]string{"", "d/ d/x", "d! d/x", "d/", "d", "d-"}, 5, func(row []string) { agrees(t, fmt.Sprintf("%q", row), layersOf(t, row...)) })
}

// TestAnyLayers: rows of trees of few names, several levels deep, with nodes in any order; it counts that all that hides came to hide something.
func TestAnyLayers(t *testing.T) {
	hidden, links, deep, many := 0, 0, 0, 0
	for seed := range 1500 {
		layers := anyLayers(seed)
		may(t, layers)
		agrees(t, fmt.Sprint("row ", seed), layers)
		l := merge.Merge(layers)
		hidden += len(allNames(layers)) - len(l)
		last := 0
		for _, n := range l {
			if n.Ino <= last {
				links++
			}
			last = max(last, n.Ino)
			if len(n.Names) > 2 {
				deep++
			}
			if len(n.Names) > 1 && len(merge.Sources(layers, n.Names)) > 2 {
				many++
			}
		}
	}
	if hidden < 5000 || links < 500 || deep < 2000 || many < 100 {
		t.Errorf("%d names hidden, %d second names, %d deep, %d of many layers", hidden, links, deep, many)
	}
}
