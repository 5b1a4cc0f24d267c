package merge_test

import (
	"bytes"
	"fmt"
	"slices"
	"strings"
	"testing"

	"lamella/api"
	"lamella/branch"
	"lamella/merge"
	"lamella/name"
)

// named is a node's names, out of a path without a slash ahead; of the root "".
func named(path string) []string {
	if path == "" {
		return nil
	}
	return strings.Split(path, "/")
}

// signs tell a node's kind behind its path.
const signs = "/!-@"

// lay is a tree out of words: "d/" is a directory, "d!" an Opaque one, "w-" a White, "l@" a symbolic link, "f" a file; "!" alone makes the root Opaque. "f=2" has the same Ino as each other "..=2". Each node that may have a mode has this one; other Inos are 1, 2, .. as the nodes stand.
func lay(mode int, words string) []api.Node {
	l := []api.Node{{Ino: 1, Kind: api.Dir, Attr: api.Attr{Mode: mode}}}
	for i, word := range strings.Fields(words) {
		if word == "!" {
			l[0].Opaque = true
			continue
		}
		n := api.Node{Ino: i + 2, Kind: api.File, Attr: api.Attr{Mode: mode}}
		path, number, one := strings.Cut(word, "=")
		if one {
			n.Ino = 1000 + int(number[0]-'0')
		}
		sign := path[len(path)-1]
		n.Names = named(strings.TrimRight(path, signs))
		switch sign {
		case '/', '!':
			n.Kind, n.Opaque = api.Dir, sign == '!'
		case '-':
			n.Kind, n.Attr = api.White, api.Attr{}
		case '@':
			n.Kind, n.Target = api.Link, "to"
		}
		l = append(l, n)
	}
	return l
}

// stacked is a layer for each text, the first one with the mode 0, the next one with 1, and so on.
func stacked(layers ...string) [][]api.Node {
	var l [][]api.Node
	for i, words := range layers {
		l = append(l, lay(i, words))
	}
	return l
}

// words is a node as lay has it, with its mode behind a colon.
func words(n api.Node) string {
	sign := map[bool]string{true: "!", false: "/"}[n.Opaque]
	switch n.Kind {
	case api.File:
		sign = ""
	case api.Link:
		sign = "@"
	case api.White:
		sign = "-"
	}
	return fmt.Sprintf("%s%s:%d", strings.Join(n.Names, "/"), sign, n.Attr.Mode)
}

// short is a row of nodes in words, each with its Ino.
func short(l []api.Node) string {
	var all []string
	for _, n := range l {
		all = append(all, fmt.Sprintf("%s=%d", words(n), n.Ino))
	}
	return strings.Join(all, " ")
}

// shows is all layers in words, for what a test tells.
func shows(layers [][]api.Node) string {
	var s strings.Builder
	for i, l := range layers {
		fmt.Fprintf(&s, "layer %d: %.2000s\n", i, short(l))
	}
	return s.String()
}

// layersOf is stacked, of trees that must be such as may be.
func layersOf(t *testing.T, layers ...string) [][]api.Node {
	t.Helper()
	l := stacked(layers...)
	may(t, l)
	return l
}

func may(t *testing.T, layers [][]api.Node) {
	t.Helper()
	for i, l := range layers {
		if e := branch.Check(l); e != api.OK {
			t.Fatalf("layer %d may not be: error %d\n%s", i, e, shows(layers))
		}
	}
}

// chance is a row of numbers that comes again as it was.
type chance uint64

func (c *chance) below(n int) int {
	*c = *c*6364136223846793005 + 1442695040888963407
	return int(*c>>33) % n
}

func pick[T any](c *chance, l ...T) T { return l[c.below(len(l))] }

func shuffle[T any](c *chance, l []T) {
	for i := range l {
		k := c.below(i + 1)
		l[i], l[k] = l[k], l[i]
	}
}

// anyLayer is a tree of few names, so that others have the same ones; its nodes stand in any order, and some are one with another.
func anyLayer(c *chance) []api.Node {
	l := []api.Node{anyNode(c, nil, api.Dir)}
	dirs := [][]string{nil}
	for range c.below(40) {
		dir := pick(c, dirs...)
		names := slices.Concat(dir, []string{pick(c, "a", "a-", "b", "\xff", "ab")})
		if slices.ContainsFunc(l, func(n api.Node) bool { return slices.Equal(n.Names, names) }) {
			continue
		}
		n := anyNode(c, names, pick(c, api.Dir, api.Dir, api.Dir, api.Dir, api.Dir, api.Dir, api.File, api.Link, api.White))
		if other := pick(c, l...); n.Kind != api.Dir && n.Kind != api.White && (other.Kind == api.File || other.Kind == api.Link) {
			n = other
			n.Names = names
		} else {
			n.Ino = c.below(1000)*30 + len(l)
		}
		if n.Kind == api.Dir && len(names) < 5 {
			dirs = append(dirs, names)
		}
		l = append(l, n)
	}
	l[0].Ino = -1
	shuffle(c, l)
	return l
}

// anyNode has what its kind may have.
func anyNode(c *chance, names []string, kind int) api.Node {
	n := api.Node{Names: names, Kind: kind}
	if kind == api.White {
		return n
	}
	n.Attr = api.Attr{Mode: c.below(512), Uid: c.below(65536), Gid: c.below(3)}
	for i := range c.below(3) {
		n.Xattrs = append(n.Xattrs, api.Xattr{Name: string(rune('a' + i)), Value: bytes.Repeat([]byte{byte(c.below(256))}, c.below(4))})
	}
	switch kind {
	case api.Dir:
		n.Opaque = c.below(16) == 0
	case api.File:
		n.Data = bytes.Repeat([]byte{byte(c.below(256))}, c.below(300))
	case api.Link:
		n.Target = pick(c, "a", "/b", "..", "\xff")
	}
	return n
}

// anyLayers is 1 to 8 trees.
func anyLayers(seed int) [][]api.Node {
	c := chance(seed)
	var l [][]api.Node
	for range 1 + seed%8 {
		l = append(l, anyLayer(&c))
	}
	return l
}

// allNames is all names of all layers, each once, by rising names.
func allNames(layers [][]api.Node) [][]string {
	var l [][]string
	for _, layer := range layers {
		for _, n := range layer {
			l = append(l, n.Names)
		}
	}
	slices.SortFunc(l, func(a, b []string) int {
		if name.Less(a, b) {
			return -1
		}
		return 1
	})
	return slices.CompactFunc(l, slices.Equal)
}

// canonical is a tree in canonical order: each node stands behind all whose names are less.
func canonical(l []api.Node) []api.Node {
	out := make([]api.Node, len(l))
	for _, n := range l {
		place := 0
		for _, m := range l {
			if name.Less(m.Names, n.Names) {
				place++
			}
		}
		out[place] = n
	}
	return renumbered(out)
}

// renumbered has Inos as they come first.
func renumbered(l []api.Node) []api.Node {
	var seen []int
	for i := range l {
		if !slices.Contains(seen, l[i].Ino) {
			seen = append(seen, l[i].Ino)
		}
		l[i].Ino = 1 + slices.Index(seen, l[i].Ino)
	}
	return l
}

// sameNodes holds each field of two rows of nodes against the other.
func sameNodes(a, b []api.Node) bool {
	return slices.EqualFunc(a, b, func(x, y api.Node) bool {
		return slices.Equal(x.Names, y.Names) && x.Ino == y.Ino && x.Kind == y.Kind && x.Attr == y.Attr && bytes.Equal(x.Data, y.Data) &&
			x.Target == y.Target && slices.EqualFunc(x.Xattrs, y.Xattrs, sameXattr) && x.Opaque == y.Opaque
	})
}

func sameXattr(a, b api.Xattr) bool { return a.Name == b.Name && bytes.Equal(a.Value, b.Value) }

// merges is Merge that must be just these nodes.
func merges(t *testing.T, what string, layers [][]api.Node, want []api.Node) []api.Node {
	t.Helper()
	got := merge.Merge(layers)
	if !sameNodes(got, want) {
		t.Fatalf("%s: Merge is\n%.3000s\nwanted\n%.3000s\nof\n%s", what, short(got), short(want), shows(layers))
	}
	return got
}
