package merge_test

import (
	"fmt"
	"slices"
	"strings"
	"testing"

	"lamella/api"
	"lamella/merge"
)

// R6, R7: what is handed in, what is kept, and what is answered.

// roomy is a copy of a list with spare room that is not empty.
func roomy[T any](l []T, spare T) []T {
	out := slices.Concat(l, slices.Repeat([]T{spare}, 5))
	return out[:len(l)]
}

// spare is a node that hides all there is, if it should be taken for one of a layer.
func spare() api.Node {
	return api.Node{Names: []string{"spare"}, Ino: 1, Kind: api.File, Data: []byte("room"), Opaque: true, Xattrs: []api.Xattr{{Name: "spare", Value: []byte("room")}}}
}

// room is a copy of layers, each list of which has spare room.
func room(layers [][]api.Node) [][]api.Node {
	out := roomy(layers, []api.Node{{Kind: api.Dir, Opaque: true}, spare()})
	for i := range out {
		out[i] = roomy(out[i], spare())
		for k := range out[i] {
			n := &out[i][k]
			n.Names, n.Data, n.Xattrs = roomy(n.Names, "spare"), roomy(n.Data, 0xee), roomy(n.Xattrs, spare().Xattrs[0])
			for j := range n.Xattrs {
				n.Xattrs[j].Value = roomy(n.Xattrs[j].Value, 0xee)
			}
		}
	}
	return out
}

// whole is all of layers, with the spare room of each list, as text.
func whole(layers [][]api.Node) string {
	var s strings.Builder
	for i, l := range layers[:cap(layers)] {
		for _, n := range l[:cap(l)] {
			fmt.Fprintf(&s, "%d: %q %d %d %v %x %q %v\n", i, n.Names[:cap(n.Names)], n.Ino, n.Kind, n.Attr, n.Data[:cap(n.Data)], n.Target, n.Opaque)
			for _, x := range n.Xattrs[:cap(n.Xattrs)] {
				fmt.Fprintf(&s, "%q %x\n", x.Name, x.Value[:cap(x.Value)])
			}
		}
	}
	return s.String()
}

func fill[T any](l []T, x T) {
	l = l[:cap(l)]
	for i := range l {
		l[i] = x
	}
}

// overwrite makes all of a node's lists others, their spare room too.
func overwrite(n *api.Node) {
	fill(n.Names, "over")
	fill(n.Data, 0xdd)
	for _, x := range n.Xattrs {
		fill(x.Value, 0xdd)
	}
	fill(n.Xattrs, api.Xattr{Name: "over"})
}

func overwriteAll(l []api.Node) {
	for i := range l {
		overwrite(&l[i])
	}
	fill(l, spare())
}

// all is what every call tells of layers, as text.
func all(layers [][]api.Node, names [][]string) string {
	var s strings.Builder
	for _, n := range names {
		layer, i := merge.Top(layers, n)
		fmt.Fprintf(&s, "%q %v %d %d", n, merge.Sources(layers, n), layer, i)
		for layer := -1; layer < len(layers); layer++ {
			fmt.Fprintf(&s, " %t", merge.Below(layers, n, layer))
		}
		s.WriteByte('\n')
	}
	for _, n := range merge.Merge(layers) {
		fmt.Fprintf(&s, "%s %d %v %x %q %q\n", words(n), n.Ino, n.Attr, n.Data, n.Target, n.Xattrs)
	}
	return s.String()
}

// TestArgumentsStay: layers and names are neither changed nor kept, nor their spare room.
func TestArgumentsStay(t *testing.T) {
	for seed := range 200 {
		layers := room(anyLayers(seed))
		before := whole(layers)
		asked := allNames(room(layers))
		for i := range asked {
			asked[i] = roomy(asked[i], "spare")
		}
		want := all(layers, asked)
		if got := whole(layers); got != before {
			t.Fatalf("row %d: what was handed in is\n%s\nand was\n%s", seed, got, before)
		}
		for _, names := range asked {
			if rest := names[len(names):cap(names)]; slices.ContainsFunc(rest[:5], func(s string) bool { return s != "spare" }) {
				t.Fatalf("row %d: the room behind %q is %q", seed, names, rest)
			}
		}
		again, other := room(layers), room(layers)
		for _, l := range layers {
			overwriteAll(l)
		}
		fill(layers, []api.Node{spare()})
		if got := all(again, asked); got != want {
			t.Fatalf("row %d: told is\n%s\nand was\n%s", seed, got, want)
		}
		if merge.Merge(other); whole(other) != whole(again) {
			t.Fatalf("row %d: what was handed in has changed", seed)
		}
	}
}

// TestAnswersAreTheCallersOwn: answers are written over, their spare room too; neither what was handed in nor another answer is changed.
func TestAnswersAreTheCallersOwn(t *testing.T) {
	for seed := range 200 {
		layers := room(anyLayers(seed))
		before := whole(layers)
		first, second := merge.Merge(layers), merge.Merge(layers)
		want := slowMerge(room(layers))
		overwriteAll(first)
		if !sameNodes(second, want) {
			t.Fatalf("row %d: two answers share something", seed)
		}
		for _, names := range allNames(layers) {
			of, others := merge.Sources(layers, names), merge.Sources(layers, names)
			fill(of, 99)
			if expected := slowSources(layers, names); !slices.Equal(others, expected) || !slices.Equal(merge.Sources(layers, names), expected) {
				t.Fatalf("row %d: Sources of %q share something", seed, names)
			}
		}
		if got := whole(layers); got != before {
			t.Fatalf("row %d: an answer shares something with what was handed in: it is\n%s\nand was\n%s", seed, got, before)
		}
		merges(t, fmt.Sprintf("row %d, later", seed), layers, want)
	}
}

// TestAnswersStay: what is handed in is written over behind an answer.
func TestAnswersStay(t *testing.T) {
	for seed := range 200 {
		layers := room(anyLayers(seed))
		want := slowMerge(room(layers))
		got := merge.Merge(layers)
		for _, l := range layers {
			overwriteAll(l)
		}
		if !sameNodes(got, want) {
			t.Fatalf("row %d: an answer shares something with what was handed in", seed)
		}
	}
}

// TestListsOfAnAnswerShareNothing: each node's lists are written over, and put something behind; all others of the answer stay, those of files that are one, too.
func TestListsOfAnAnswerShareNothing(t *testing.T) {
	shared := api.Node{Ino: 3, Kind: api.File, Data: []byte("data"), Xattrs: []api.Xattr{{Name: "a", Value: []byte("v")}, {Name: "b", Value: []byte("w")}}}
	at := func(names ...string) api.Node {
		n := shared // all have the same lists in memory
		n.Names = names
		return n
	}
	root := api.Node{Ino: 1, Kind: api.Dir, Xattrs: shared.Xattrs}
	layers := [][]api.Node{{root, at("a"), at("b")}, {root, at("a"), at("c"), at("d")}}
	may(t, layers)
	for i, l := range append([][][]api.Node{layers}, anyLayers(5), anyLayers(15), anyLayers(23)) {
		want := slowMerge(l)
		for k := range want {
			got := merge.Merge(l)
			n := &got[k]
			_, _, _ = append(n.Names, "more"), append(n.Data, 1, 2, 3), append(n.Xattrs, api.Xattr{Name: "more"})
			for _, x := range n.Xattrs {
				_ = append(x.Value, 1, 2, 3)
			}
			if !sameNodes(got, want) {
				t.Errorf("row %d: behind a list of %q stands something else", i, n.Names)
			}
			for j := range n.Xattrs {
				fill(n.Xattrs[j].Value, 0xdd)
				n.Xattrs[j].Value = want[k].Xattrs[j].Value
				if !sameNodes(got, want) {
					t.Errorf("row %d: values of %q share something", i, want[k].Names)
				}
			}
			got = merge.Merge(l)
			overwrite(&got[k])
			if !sameNodes(slices.Delete(got, k, k+1), slices.Delete(slices.Clone(want), k, k+1)) {
				t.Errorf("row %d: %q shares something with another node", i, want[k].Names)
			}
		}
	}
}
