package copyup_test

import (
	"bytes"
	"fmt"
	"slices"
	"strings"
	"testing"

	"lamella/api"
	"lamella/branch"
	"lamella/image"
	"lamella/look"
	"lamella/mount"
	"lamella/upper"
)

// much is a quota that no test comes to.
var much = api.Quota{Nodes: 1 << 20, Bytes: 1 << 30}

// named is a node's names, out of a path without a slash ahead; of the root "".
func named(path string) []string {
	if path == "" {
		return nil
	}
	return strings.Split(path, "/")
}

// signs tell a node's kind behind its path.
const signs = "/!-@"

// lay is a tree out of words: "d/" is a directory, "d!" an Opaque one, "w-" a White, "l@" a symbolic link, "f" a file; "!" alone makes the root Opaque. "f=2" is one with each other "..=2". Each node that may have a mode has this one, and what a file has and a link leads to tells it, too.
func lay(mode int, words string) []api.Node {
	l := []api.Node{{Ino: 1, Kind: api.Dir, Attr: api.Attr{Mode: mode}}}
	for i, word := range strings.Fields(words) {
		if word == "!" {
			l[0].Opaque = true
			continue
		}
		path, number, one := strings.Cut(word, "=")
		n := api.Node{Names: named(strings.TrimRight(path, signs)), Ino: i + 2, Kind: api.File, Attr: api.Attr{Mode: mode}}
		text := fmt.Sprintf("%s of %d", strings.TrimRight(path, signs), mode)
		if one {
			n.Ino, text = 1000+int(number[0]-'0'), fmt.Sprintf("=%s of %d", number, mode)
		}
		switch sign := path[len(path)-1]; sign {
		case '/', '!':
			n.Kind, n.Opaque = api.Dir, sign == '!'
		case '-':
			n.Kind, n.Attr = api.White, api.Attr{}
		case '@':
			n.Kind, n.Target = api.Link, text
		default:
			n.Data = []byte(text)
		}
		l = append(l, n)
	}
	return l
}

// filled is an upper branch with a tree.
func filled(t *testing.T, l []api.Node) *upper.Upper {
	t.Helper()
	u, e := branch.Fill(much, l)
	if e != api.OK {
		t.Fatalf("Fill: error %d of\n%s", e, text(l))
	}
	return u
}

func opened(t *testing.T, l []api.Node) *mount.Image {
	t.Helper()
	m, e := image.Open(l)
	if e != api.OK {
		t.Fatalf("Open: error %d of\n%s", e, text(l))
	}
	return m
}

// isPlain is whether a tree may be an image's.
func isPlain(l []api.Node) bool {
	return !slices.ContainsFunc(l, func(n api.Node) bool { return n.Kind == api.White || n.Opaque })
}

// stackOf has an upper branch with the first tree; of the others those that may be images are such, and the rest further upper branches.
func stackOf(t *testing.T, trees ...[]api.Node) *look.Stack {
	t.Helper()
	s := &look.Stack{Up: filled(t, trees[0])}
	for _, l := range trees[1:] {
		if isPlain(l) {
			s.Low = append(s.Low, opened(t, l))
		} else {
			s.Low = append(s.Low, filled(t, l))
		}
	}
	return s
}

// stacked is stackOf, of a layer for each text, the first one with the mode 0, the next one with 1, and so on.
func stacked(t *testing.T, layers ...string) *look.Stack {
	t.Helper()
	var trees [][]api.Node
	for i, words := range layers {
		trees = append(trees, lay(i, words))
	}
	return stackOf(t, trees...)
}

// layersOf is the branches of a stack, the topmost first.
func layersOf(s *look.Stack) []image.Branch {
	return slices.Concat([]image.Branch{s.Up}, s.Low)
}

func sign(kind int) string {
	return map[int]string{api.Dir: "/", api.File: "", api.Link: "@", api.White: "-"}[kind]
}

// words is a tree as lay has it, but that a mode stands behind each node that may have one: of what was laid down it is that of the layer it was in.
func words(l []api.Node) string {
	var out []string
	for _, n := range l {
		s := strings.Join(n.Names, "/") + sign(n.Kind)
		if n.Opaque {
			s = strings.TrimSuffix(s, "/") + "!"
		}
		if n.Kind != api.White {
			s += fmt.Sprint(n.Attr.Mode)
		}
		out = append(out, s)
	}
	return strings.Join(out, " ")
}

// above is what the upper branch has.
func above(t *testing.T, s *look.Stack) []api.Node {
	t.Helper()
	l, e := branch.Tree(s.Up)
	if e != api.OK {
		t.Fatalf("Tree: error %d", e)
	}
	return l
}

// cloned is a stack of the same images, with a clone of the upper branch.
func cloned(s *look.Stack) *look.Stack { return &look.Stack{Up: s.Up.Clone(), Low: s.Low} }

// text is a line for each node.
func text(l []api.Node) string {
	var s strings.Builder
	for _, n := range l {
		fmt.Fprintf(&s, "%q Ino %d Kind %d %v Data %d:%.20x Target %.20q Xattrs %.60q Opaque %v\n", n.Names, n.Ino, n.Kind, n.Attr, len(n.Data), n.Data, n.Target, n.Xattrs, n.Opaque)
	}
	return s.String()
}

// shows is all layers, for what a test tells.
func shows(s *look.Stack) string {
	var out strings.Builder
	for i, b := range layersOf(s) {
		l, e := branch.Tree(b)
		fmt.Fprintf(&out, "layer %d, error %d:\n%.2000s", i, e, text(l))
	}
	return out.String()
}

// sameNodes holds each field of two rows of nodes against the other.
func sameNodes(a, b []api.Node) bool {
	return slices.EqualFunc(a, b, func(x, y api.Node) bool {
		return slices.Equal(x.Names, y.Names) && x.Ino == y.Ino && x.Kind == y.Kind && x.Attr == y.Attr && bytes.Equal(x.Data, y.Data) &&
			x.Target == y.Target && sameXattrs(x.Xattrs, y.Xattrs) && x.Opaque == y.Opaque
	})
}

func sameXattrs(a, b []api.Xattr) bool {
	return slices.EqualFunc(a, b, func(x, y api.Xattr) bool { return x.Name == y.Name && bytes.Equal(x.Value, y.Value) })
}

// chance is a row of numbers that comes again as it was.
type chance uint64

func (c *chance) below(n int) int {
	*c = *c*6364136223846793005 + 1442695040888963407
	return int(*c>>33) % n
}

func pick[T any](c *chance, l ...T) T { return l[c.below(len(l))] }

// anyTree is of few names, so that others have the same ones; some nodes are one with another. A plain one has neither marks nor Opaque directories.
func anyTree(c *chance, plain bool) []api.Node {
	l := []api.Node{anyNode(c, nil, api.Dir, plain)}
	dirs := [][]string{nil}
	for range c.below(40) {
		names := slices.Concat(pick(c, dirs...), []string{pick(c, "a", "a-", "b", "\xff", "ab")})
		if slices.ContainsFunc(l, func(n api.Node) bool { return slices.Equal(n.Names, names) }) {
			continue
		}
		n := anyNode(c, names, pick(c, api.Dir, api.Dir, api.Dir, api.Dir, api.Dir, api.Dir, api.File, api.Link, api.White), plain)
		if other := pick(c, l...); n.Kind != api.Dir && n.Kind != api.White && (other.Kind == api.File || other.Kind == api.Link) {
			n = other
			n.Names = names
		} else {
			n.Ino = c.below(1000)*30 + len(l)
		}
		if n.Kind == api.Dir && len(names) < 5 {
			dirs = append(dirs, names)
		}
		l = append(l, n)
	}
	l[0].Ino = -1
	return l
}

// anyNode has what its kind may have.
func anyNode(c *chance, names []string, kind int, plain bool) api.Node {
	if plain && kind == api.White {
		kind = api.File
	}
	n := api.Node{Names: names, Kind: kind}
	if kind == api.White {
		return n
	}
	n.Attr = api.Attr{Mode: c.below(512), Uid: c.below(65536), Gid: c.below(3)}
	for i := range c.below(3) {
		n.Xattrs = append(n.Xattrs, api.Xattr{Name: string(rune('a' + i)), Value: bytes.Repeat([]byte{byte(c.below(256))}, c.below(4))})
	}
	switch kind {
	case api.Dir:
		n.Opaque = !plain && c.below(16) == 0
	case api.File:
		n.Data = bytes.Repeat([]byte{byte(c.below(256))}, c.below(300))
	case api.Link:
		n.Target = pick(c, "a", "/b", "..", "\xff")
	}
	return n
}

// anyTrees is an upper branch's tree above 0 to 7 others, most of them images'.
func anyTrees(seed int) [][]api.Node {
	c := chance(seed)
	l := [][]api.Node{anyTree(&c, false)}
	for range seed % 8 {
		l = append(l, anyTree(&c, c.below(4) > 0))
	}
	return l
}

func anyStack(t *testing.T, seed int) *look.Stack {
	t.Helper()
	return stackOf(t, anyTrees(seed)...)
}
