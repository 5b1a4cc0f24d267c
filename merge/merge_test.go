package merge_test

import (
	"bytes"
	"fmt"
	"slices"
	"strings"
	"testing"

	"lamella/api"
	"lamella/branch"
	"lamella/merge"
	"lamella/tree"
	"lamella/upper"
)

// P19.3: Merge.

// comes is of layers in words: what they come to.
func comes(t *testing.T, want string, layers ...string) {
	t.Helper()
	if got := short(merge.Merge(layersOf(t, layers...))); got != want {
		t.Errorf("%q: Merge is\n%s\nwanted\n%s", layers, got, want)
	}
}

func TestMergeOfNoLayers(t *testing.T) {
	if l := merge.Merge(nil); len(l) != 0 {
		t.Errorf("Merge of nil: %s", short(l))
	}
	if l := merge.Merge([][]api.Node{}); len(l) != 0 {
		t.Errorf("Merge of no layers: %s", short(l))
	}
}

func TestMergeOfOneLayer(t *testing.T) {
	comes(t, "/:0=1", "")
	comes(t, "/:0=1", "!")
	comes(t, "/:0=1 a:0=2 d/:0=3 d/f:0=4 l@:0=5", "l@ d/ a d/f")
	comes(t, "/:0=1 d/:0=2 d/e/:0=3 d/e/f:0=4", "! w- d! d/w- d/e! d/e/f d/e/w-")
	comes(t, "/:0=1", "a- b- c-")
	comes(t, "/:0=1 a:0=2 b:0=2 c@:0=3 d/:0=4 d/a@:0=3 d/b:0=2 e:0=5", "e d/ c@=1 b=2 d/b=2 d/a@=1 a=2")
}

func TestMergeOfTwo(t *testing.T) {
	low := "a b@ d/ d/f d/s/ d/s/g"
	comes(t, "/:0=1 a:1=2 b@:1=3 d/:1=4 d/f:1=5 d/s/:1=6 d/s/g:1=7", "", low)
	comes(t, "/:0=1", "!", low)
	comes(t, "/:0=1 c:0=2", "! c", low)
	comes(t, "/:0=1 a:0=2 b/:0=3 d/:1=4 d/f:1=5 d/s/:1=6 d/s/g:1=7", "b! b/w- a", low)
	comes(t, "/:0=1 d/:0=2 d/f:1=3 d/h:0=4 d/s/:1=5 d/s/g:1=6", "a- b- d/ d/h", low)
	comes(t, "/:0=1 a:1=2 b@:1=3 d/:0=4 d/h:0=5", "d! d/h d/s-", low)
	comes(t, "/:0=1 a:1=2 b@:1=3 d/:0=4 d/f:0=5 d/s/:0=6 d/s/g:1=7", "d/ d/s/ d/f d/s/x-", low)
	comes(t, "/:0=1 a:1=2 b@:1=3 d/:0=4 d/f:1=5 d/s/:0=6", "d/ d/s!", low)
	comes(t, "/:0=1 a:1=2 b@:1=3 d:0=4", "d", low)
	comes(t, "/:0=1 a:1=2 b@:1=3 d@:0=4", "d@", low)
	comes(t, "/:0=1 a:1=2 b@:1=3", "d-", low)
	comes(t, "/:0=1 a:1=2 b@:1=3 d/:0=4 d/f:1=5 d/s/:0=6", "d/ d/s/ d/s/g-", low)
	comes(t, "/:0=1 a:0=2 b@:0=3 d/:0=4 d/f:0=5 d/s/:0=6 d/s/g:0=7", low, low)
	comes(t, "/:0=1 a:0=2 b@:0=3 d/:0=4 d/f:0=5 d/s/:0=6 d/s/g:0=7", low, "")
	comes(t, "/:0=1 a:0=2 b@:0=3 d/:0=4 d/f:0=5 d/s/:0=6 d/s/g:0=7", low, "a- b- d-")
}

func TestMergeOfThree(t *testing.T) {
	comes(t, "/:0=1 a:0=2 b:1=3 c:2=4", "a", "a b", "a b c")
	comes(t, "/:0=1 b:1=2 c:2=3", "a-", "a b", "a b c")
	comes(t, "/:0=1 a:0=2 c:2=3", "a", "a- b-", "a b c")
	comes(t, "/:0=1 a:0=2 b:1=3", "a", "! b", "a b c")
	comes(t, "/:0=1 d/:0=2 d/x:0=3", "d/ d/x", "d-", "d/ d/y")
	comes(t, "/:0=1 d/:0=2 d/x:0=3", "d/ d/x", "d", "d/ d/y")
	comes(t, "/:0=1 d/:0=2 d/x:0=3 d/y:1=4", "d/ d/x", "d! d/y", "d/ d/z")
	comes(t, "/:0=1 d/:0=2 d/x:0=3 d/z:2=4", "d/ d/x", "", "d/ d/z")
	comes(t, "/:0=1 d/:0=2 d/e/:1=3 d/e/f:2=4", "d/", "d/ d/e/", "d/ d/e/ d/e/f")
	comes(t, "/:0=1 d/:0=2 d/e/:0=3", "d/ d/e/", "d/ d/e-", "d/ d/e/ d/e/f")
	comes(t, "/:0=1 d/:0=2 d/e/:1=3 d/f:2=4", "d/", "d/ d/e!", "d/ d/e/ d/e/f d/f")
	comes(t, "/:0=1 d/:0=2 d/x:0=3", "d! d/x", "d- e-", "d/ d/y e")
	comes(t, "/:0=1 d:0=2", "d", "d!", "d/ d/y")
	comes(t, "/:0=1 d/:0=2 d/f:1=3", "d/ d/e-", "d! d/e d/f", "d/ d/f d/g")
}

func TestMergeOfEight(t *testing.T) {
	comes(t, "/:0=1 a:0=2 b:1=3 c:2=4 d:3=5 e:4=6 f:5=7 g:6=8 h:7=9", "a", "b", "c", "d", "e", "f", "g", "h")
	comes(t, "/:0=1 a:0=2 b:1=3 c:2=4 d:3=5", "a", "b a-", "c b- a", "! d c-", "e d a", "f e", "g", "h")
	comes(t, "/:0=1 d/:1=2 d/a:2=3 d/b:3=4 d/c/:4=5 d/c/x:6=6 d/e:6=7", "", "d/", "d/ d/a d/f-", "d/ d/b d/a", "d/ d/c/", "", "d! d/c/ d/c/x d/e d/f", "d/ d/g d/c/ d/c/y")
}

// TestNamesRise: names are held against each other as bytes, part by part.
func TestNamesRise(t *testing.T) {
	comes(t, "/:0=1 A:1=2 a/:0=3 a/b/:0=4 a/b/z:1=5 a/b!x:1=6 a/bb:0=7 a!b:1=8 a-b:1=9 a0:0=10 ab:1=11 b:0=12 \xc3\xa9:1=13 \xff:0=14",
		"\xff b a0 a/ a/b/ a/bb", "ab A a-b a!b a/ a/b/ a/b/z a/b!x \xc3\xa9 \xff")
	comes(t, "/:0=1 10:1=2 9:0=3 a:1=4 aa:0=5 b/:0=6 b/10:0=7 b/9:1=8", "aa 9 b/ b/10", "a 10 b/ b/9")
	for seed := range 300 {
		l := merge.Merge(anyLayers(seed))
		for i := range l[1:] {
			if !slices.IsSortedFunc(l[i:i+2], func(a, b api.Node) int { return slices.Compare(a.Names, b.Names) }) || slices.Equal(l[i].Names, l[i+1].Names) {
				t.Fatalf("row %d: %q ahead of %q", seed, l[i].Names, l[i+1].Names)
			}
		}
	}
}

// TestInos: what is one in its layer stays one, what is of two layers is two.
func TestInos(t *testing.T) {
	comes(t, "/:0=1 a:1=2 b:1=3 c:1=2", "", "c=1 b a=1")
	comes(t, "/:0=1 a:0=2 b:1=3 c:0=2 d:1=3", "a=1 c=1", "b=1 d=1")              // two layers with one Ino
	comes(t, "/:0=1 a:0=2 b:1=3 c:2=4 d:2=4 e:1=3", "a=1", "b=1 e=1", "c=1 d=1") // three
	comes(t, "/:0=1 b:1=2 c:1=2", "a-", "a=1 b=1 c=1")                           // one of the names is hidden
	comes(t, "/:0=1 a:0=2 b:1=3 c:1=3", "a", "a=1 b=1 c=1")                      // and there is another thing
	comes(t, "/:0=1 a:0=2 b:1=3 c:0=2 d:1=3", "a=1 c=1", "a=1 b=1 c=1 d=1")      // of the same Ino
	comes(t, "/:0=1 c:1=2 d:0=3", "a- b- d", "a=1 b=1 c=1 d=1")                  // all but one
	comes(t, "/:0=1 d/:0=2 z@:1=3", "d!", "d/ d/l@=1 z@=1")                      // within what is hidden
	comes(t, "/:0=1 d/:0=2 d/a:1=3 d/b:1=4 e:1=4 f:1=3", "d/", "d/ f=2 d/b=3 d/a=2 e=3")
	comes(t, "/:0=1 a:0=2 b:1=3 c:2=4 d:3=5", "a=1", "b=1", "c=1", "d=1")
	// The root's Ino is one of another layer's file, too.
	root := api.Node{Ino: 7, Kind: api.Dir}
	at := func(kind, ino int, names ...string) api.Node { return api.Node{Names: names, Ino: ino, Kind: kind} }
	layers := [][]api.Node{{root, at(api.File, 0, "b"), at(api.Dir, -1, "d")}, {at(api.Dir, 0), at(api.File, 7, "a"), at(api.File, -1, "c"), at(api.File, 7, "d-")}}
	may(t, layers)
	if got, want := short(merge.Merge(layers)), "/:0=1 a:0=2 b:0=3 c:0=4 d/:0=5 d-:0=2"; got != want {
		t.Errorf("%s, wanted %s", got, want)
	}
}

// TestInosMakeNoDifference: other numbers of the same things.
func TestInosMakeNoDifference(t *testing.T) {
	for seed := range 200 {
		layers := anyLayers(seed)
		want := merge.Merge(layers)
		for i, l := range layers {
			layers[i] = slices.Clone(l)
			for k := range l {
				layers[i][k].Ino = l[k].Ino*(1-2*(seed%2)) + i*seed
			}
		}
		merges(t, fmt.Sprint("row ", seed), layers, want)
	}
}

// TestNodesAreAsTopTells: all that a node has, but for its Opaque and its Ino, is that of the top one, none of those it is above.
func TestNodesAreAsTopTells(t *testing.T) {
	x := []api.Xattr{{Name: "a", Value: []byte("1")}, {Name: "b"}}
	top := []api.Node{
		{Ino: 5, Kind: api.Dir, Attr: api.Attr{Mode: 1, Uid: 2, Gid: 3}, Xattrs: x, Opaque: false},
		{Names: []string{"d"}, Ino: 6, Kind: api.Dir, Attr: api.Attr{Mode: 511, Uid: 65535, Gid: 65535}},
		{Names: []string{"f"}, Ino: 7, Kind: api.File, Attr: api.Attr{Mode: 4}, Data: []byte("top")},
		{Names: []string{"l"}, Ino: 8, Kind: api.Link, Target: "top", Xattrs: x[1:]},
		{Names: []string{"o"}, Ino: 9, Kind: api.Dir, Xattrs: x[:1], Opaque: true},
	}
	low := []api.Node{
		{Ino: 5, Kind: api.Dir, Attr: api.Attr{Mode: 9, Uid: 9, Gid: 9}, Xattrs: x[1:], Opaque: true},
		{Names: []string{"d"}, Ino: 6, Kind: api.Dir, Attr: api.Attr{Mode: 7, Uid: 7, Gid: 7}, Xattrs: x, Opaque: true},
		{Names: []string{"d", "g"}, Ino: 10, Kind: api.File, Data: bytes.Repeat([]byte{1, 0}, 2048), Xattrs: x},
		{Names: []string{"d", "h"}, Ino: 11, Kind: api.Link, Attr: api.Attr{Gid: 1}, Target: strings.Repeat("t", 200)},
		{Names: []string{"f"}, Ino: 7, Kind: api.File, Attr: api.Attr{Mode: 5}, Data: []byte("low"), Xattrs: x},
		{Names: []string{"l"}, Ino: 8, Kind: api.Link, Target: "low"},
		{Names: []string{"o"}, Ino: 12, Kind: api.Dir, Attr: api.Attr{Mode: 1}},
		{Names: []string{"o", "p"}, Ino: 13, Kind: api.File},
	}
	layers := [][]api.Node{top, low}
	may(t, layers)
	want := []api.Node{top[0], top[1], low[2], low[3], top[2], top[3], top[4]}
	for i := range want {
		want[i].Ino, want[i].Opaque = i+1, false
	}
	merges(t, "two layers", layers, want)
}

// P19.4: what follows.

// plain is a tree without its marks, in canonical order.
func plain(l []api.Node) []api.Node {
	l = slices.DeleteFunc(slices.Clone(l), func(n api.Node) bool { return n.Kind == api.White })
	for i := range l {
		l[i].Opaque = false
	}
	return canonical(l)
}

// TestMergeOfATreeAlone is it in canonical order, but for its marks; a tree without marks is that of tree.Canon, and what is merged is its own merge.
func TestMergeOfATreeAlone(t *testing.T) {
	c := chance(19)
	for i := range 500 {
		l := anyLayer(&c)
		may(t, [][]api.Node{l})
		got := merges(t, fmt.Sprint("tree ", i), [][]api.Node{l}, plain(l))
		canon, e := tree.Canon(got)
		if e != api.OK || !sameNodes(canon, got) {
			t.Fatalf("tree %d: Canon: error %d\n%s\n%s", i, e, short(canon), short(got))
		}
		merges(t, fmt.Sprint("tree ", i, ", merged"), [][]api.Node{got}, got)
	}
}

// TestAnOpaqueRootHidesAllBehind: whatever stands there.
func TestAnOpaqueRootHidesAllBehind(t *testing.T) {
	for seed := range 200 {
		layers := anyLayers(seed)
		k := slices.IndexFunc(layers[0], func(n api.Node) bool { return len(n.Names) == 0 })
		layers[0][k].Opaque = true
		merges(t, fmt.Sprint("row ", seed), layers, plain(layers[0]))
		for _, names := range allNames(layers) {
			if of := merge.Sources(layers, names); len(of) > 0 && !slices.Equal(of, []int{0}) || merge.Below(layers, names, 0) {
				t.Fatalf("row %d: Sources of %q: %v, Below: %t", seed, names, of, merge.Below(layers, names, 0))
			}
		}
	}
}

// TestAnEmptyTreeHidesNothing: above, between or behind others; above them the root alone is its own.
func TestAnEmptyTreeHidesNothing(t *testing.T) {
	empty := []api.Node{{Ino: 77, Kind: api.Dir, Attr: api.Attr{Mode: 1, Uid: 2, Gid: 3}}}
	for seed := range 200 {
		layers := anyLayers(seed)
		want := merge.Merge(layers)
		for i := 1; i <= len(layers); i++ {
			merges(t, fmt.Sprintf("row %d, %d", seed, i), slices.Insert(slices.Clone(layers), i, empty), want)
		}
		above := slices.Concat(empty, want[1:])
		above[0].Ino = 1
		merges(t, fmt.Sprintf("row %d, above", seed), slices.Concat([][]api.Node{empty, empty}, layers), above)
	}
}

// TestMergedAhead: it makes no difference whether the trees behind the first ones are merged ahead.
func TestMergedAhead(t *testing.T) {
	for seed := range 400 {
		layers := anyLayers(seed)
		want := merge.Merge(layers)
		for i := range layers {
			behind := merge.Merge(layers[i:])
			merges(t, fmt.Sprintf("row %d, %d", seed, i), slices.Concat(layers[:i:i], [][]api.Node{behind}), want)
		}
	}
	for _, row := range [][]string{{"d/ d/x", "d-", "d/ d/y"}, {"d/ d/x", "d", "d/ d/y"}, {"d/", "d! d/y", "d/ d/z"}, {"a=1", "a-", "a=1 b=1 c=1"}, {"", "!", "a"}, {"d/ d/e-", "d/ d/e/ d/e/f", "d! d/e/ d/e/g"}} {
		layers := layersOf(t, row...)
		merges(t, fmt.Sprintf("%q", row), [][]api.Node{layers[0], merge.Merge(layers[1:])}, merge.Merge(layers))
	}
}

// TestMergeIsATree: it may be, but that it may have more nodes than one tree has.
func TestMergeIsATree(t *testing.T) {
	for seed := range 500 {
		layers := anyLayers(seed)
		if e := tree.Check(merge.Merge(layers)); e != api.OK {
			t.Fatalf("row %d: Check: error %d\n%s", seed, e, shows(layers))
		}
	}
}

// TestGreatLayers: eight trees of as many nodes as may be, with names of their own, with the same ones, and with Whites.
func TestGreatLayers(t *testing.T) {
	great := func(i int, word func(k int) string) []api.Node {
		var l []string
		for k := range 1023 {
			l = append(l, word(k))
		}
		return lay(i, strings.Join(l, " "))
	}
	var own, same, mixed [][]api.Node
	for i := range 8 {
		own = append(own, great(i, func(k int) string { return fmt.Sprintf("%d.%d", k, i) }))
		same = append(same, great(i, func(k int) string { return fmt.Sprintf("%d/", k) }))
		mixed = append(mixed, great(i, func(k int) string { return fmt.Sprint(k, []string{"-", "", "/", "!"}[(k+i)%4]) }))
	}
	for what, layers := range map[string][][]api.Node{"own": own, "same": same, "mixed": mixed} {
		may(t, layers)
		l := merge.Merge(layers)
		if want := map[string]int{"own": 8*1023 + 1, "same": 1024, "mixed": 1 + 1023 - 256}[what]; len(l) != want {
			t.Errorf("%s: %d nodes, wanted %d", what, len(l), want)
		}
		for i, n := range l {
			if layer, k := merge.Top(layers, n.Names); layer != n.Attr.Mode || k < 0 || n.Ino != i+1 {
				t.Fatalf("%s: %q, node %d: of the layer %d, Ino %d; Top %d, %d", what, n.Names, i, n.Attr.Mode, n.Ino, layer, k)
			}
		}
	}
	sources(t, same, "1000", 0, 1, 2, 3, 4, 5, 6, 7)
	chains := stacked(slices.Repeat([]string{chain(16, "/")}, 8)...)
	sources(t, chains, deep(16), 0, 1, 2, 3, 4, 5, 6, 7)
	if l := merge.Merge(chains); len(l) != 17 {
		t.Errorf("chains: %d nodes", len(l))
	}
}

// TestMergeOfBranches: layers as branch.Tree tells them, of an upper branch that is written above another.
func TestMergeOfBranches(t *testing.T) {
	quota := api.Quota{Nodes: 100, Bytes: 10000}
	low, e := branch.Fill(quota, lay(3, "a=1 b=1 d/ d/f d/g"))
	if e != api.OK {
		t.Fatal(e)
	}
	up := upper.New(quota)
	shown := func() string {
		var layers [][]api.Node
		for _, u := range []*upper.Upper{up, low} {
			l, e := branch.Tree(u)
			if e != api.OK {
				t.Fatal(e)
			}
			layers = append(layers, l)
		}
		return short(merge.Merge(layers))
	}
	making := func(dir int, s string, n api.Node) func() api.Errno {
		return func() api.Errno { _, e := up.Make(dir, s, n); return e }
	}
	for i, x := range []struct {
		call func() api.Errno
		want string
	}{
		{func() api.Errno { return api.OK }, "/:493=1 a:3=2 b:3=2 d/:3=3 d/f:3=4 d/g:3=5"},
		{making(1, "b", api.Node{Kind: api.White}), "/:493=1 a:3=2 d/:3=3 d/f:3=4 d/g:3=5"},
		{making(1, "d", api.Node{Kind: api.Dir}), "/:493=1 a:3=2 d/:0=3 d/f:3=4 d/g:3=5"},
		{making(3, "e", api.Node{Kind: api.Link, Target: "to"}), "/:493=1 a:3=2 d/:0=3 d/e@:0=4 d/f:3=5 d/g:3=6"},
		{func() api.Errno { return up.Link(1, "a", 4) }, "/:493=1 a@:0=2 d/:0=3 d/e@:0=2 d/f:3=4 d/g:3=5"},
		{func() api.Errno { return up.SetOpaque(3, true) }, "/:493=1 a@:0=2 d/:0=3 d/e@:0=2"},
		{func() api.Errno { return up.Remove(1, "b") }, "/:493=1 a@:0=2 b:3=3 d/:0=4 d/e@:0=2"},
		{func() api.Errno { return up.SetOpaque(1, true) }, "/:493=1 a@:0=2 d/:0=3 d/e@:0=2"},
		{func() api.Errno { return up.Move(1, "d", 1, "z") }, "/:493=1 a@:0=2 z/:0=3 z/e@:0=2"},
		{func() api.Errno { return up.SetOpaque(1, false) }, "/:493=1 a@:0=2 b:3=3 d/:3=4 d/f:3=5 d/g:3=6 z/:0=7 z/e@:0=2"},
	} {
		if e := x.call(); e != api.OK {
			t.Fatalf("call %d: error %d", i, e)
		}
		if got := shown(); got != x.want {
			t.Errorf("behind call %d: %s\nwanted %s", i, got, x.want)
		}
	}
}
