package mount_test

import (
	"fmt"
	"slices"
	"testing"

	"lamella/api"
	"lamella/mount"
	"lamella/tree"
)

// P15.4: what follows.

func TestBuiltIsTold(t *testing.T) {
	for what, l := range trees() {
		tells(t, what, mounts(t, what, built(t, what, l)), l)
	}
	for what, l := range greatTrees() {
		tells(t, what, mounts(t, what, built(t, what, l)), l)
	}
	for seed := range uint32(300) {
		what := fmt.Sprint("any tree, ", seed)
		l := anyTree(seed)
		tells(t, what, mounts(t, what, built(t, what, l)), l)
	}
}

// TestGreatestImage: one of nearly MaxImage bytes that is built, and ones of about so many that are drafted.
func TestGreatestImage(t *testing.T) {
	var l []api.Node
	for i, f := range manyFiles(228, 4096) {
		l = append(l, attributed(f, xattr("n", string(mixed(uint32(i), 200)))))
	}
	image := built(t, "the greatest", rooted(l...))
	if len(image) < api.MaxImage*98/100 {
		t.Fatal(len(image))
	}
	tells(t, "the greatest", mounts(t, "the greatest", image), rooted(l...))
	for _, size := range []int{api.MaxImage - 1, api.MaxImage, api.MaxImage + 1} {
		d := world()
		d.blocks = append(d.blocks, make([]byte, size-len(world().image()))...)
		if ok := asTheModel(t, fmt.Sprint(size, " bytes"), d.image()); ok != (size <= api.MaxImage) {
			t.Errorf("%d bytes: mounted: %v", size, ok)
		}
	}
}

// isTree holds that what an image tells is one, but for bytes that can't be read.
func isTree(t *testing.T, what string, m *mount.Image) {
	t.Helper()
	var nodes []api.Node
	var walk func(names []string, ref int)
	walk = func(names []string, ref int) {
		s, e := m.Stat(ref)
		x, f := m.Xattrs(ref)
		n := api.Node{Names: names, Ino: ref, Kind: s.Kind, Attr: s.Attr, Xattrs: x}
		if e != api.OK || f != api.OK {
			t.Fatalf("%s: %q: errors %d, %d", what, names, e, f)
		}
		switch s.Kind {
		case api.File:
			n.Data = make([]byte, s.Size)
			if b, e := m.Read(ref, 0, s.Size); e != api.ErrIO && (len(b) != s.Size || e != api.OK) {
				t.Fatalf("%s: %q: %d bytes of %d, error %d", what, names, len(b), s.Size, e)
			}
		case api.Link:
			n.Target, e = m.Target(ref)
		}
		nodes = append(nodes, n)
		if e != api.OK || len(nodes) > 2000 {
			t.Fatalf("%s: %q: error %d, or no end", what, names, e)
		}
		if s.Kind == api.Dir {
			list, e := m.List(ref)
			if e != api.OK || len(list) != s.Size {
				t.Fatalf("%s: %q: %d entries of %d, error %d", what, names, len(list), s.Size, e)
			}
			for _, x := range list {
				walk(append(slices.Clone(names), x.Name), x.Ref)
			}
		}
	}
	walk(nil, m.Root())
	if e := tree.Check(nodes); e != api.OK {
		t.Errorf("%s: no tree: error %d", what, e)
	}
	for i, n := range nodes {
		if s, _ := m.Stat(n.Ino); s.Links != tree.Links(nodes, i) {
			t.Errorf("%s: %q: Links %d of %d", what, n.Names, s.Links, tree.Links(nodes, i))
		}
	}
}

// TestAnyByteTurned: what is behind the superblock and the blocks has sums, and is refused; what is in the blocks may be mounted, and then all but files' bytes is told as it was.
func TestAnyByteTurned(t *testing.T) {
	for _, what := range []string{"a root alone", "one of each kind", "files that are one", "attributes", "owners", "a chain of directories", "noughts"} {
		image := built(t, what, trees()[what])
		l, _ := modelOf(image)
		whole := 0
		for at := range image {
			for _, turn := range []byte{1, 16, 128, 255} {
				image[at] ^= turn
				m, e := mount.Mount(image)
				if e == api.OK {
					isTree(t, what, m)
					whole++
				}
				if e != api.OK && (e != api.ErrCorrupt || m != nil) || e == api.OK && (at < 64 || at >= l.super.InodeAt) {
					t.Fatalf("%s: the byte %d turned by %d: error %d", what, at, turn, e)
				}
				image[at] ^= turn
			}
		}
		if l.super.InodeAt > 100 && whole == 0 {
			t.Errorf("%s: files' bytes are read by Mount", what)
		}
	}
}

// TestRowsTurned: each byte of the rows of a draft is another one, with the sums made right again.
func TestRowsTurned(t *testing.T) {
	plain := world().plain()
	counts := map[bool]int{}
	for row, b := range [][]byte{plain.inodes, plain.lists, plain.places, plain.owners, plain.xattrs} {
		for at := range b {
			for _, turn := range []byte{1, 2, 3, 4, 8, 16, 32, 64, 128, 255} {
				d := world()
				d.rows = func(r *rows) { [][]byte{r.inodes, r.lists, r.places, r.owners, r.xattrs}[row][at] ^= turn }
				counts[asTheModel(t, fmt.Sprintf("the row %d: the byte %d turned by %d", row, at, turn), d.image())]++
			}
		}
	}
	if counts[true] < 500 || counts[false] < 500 {
		t.Errorf("%v", counts)
	}
}

// TestAnyDrafts: worlds in which some things, as chance has it, are others.
func TestAnyDrafts(t *testing.T) {
	counts := map[bool]int{}
	for seed := range uint32(4000) {
		c := chance(seed)
		d := world()
		for range 1 + c.below(3) {
			anyChange(&c, d)
		}
		counts[asTheModel(t, fmt.Sprint("any draft, ", seed), d.image())]++
	}
	if counts[true] < 400 || counts[false] < 400 {
		t.Errorf("%v", counts)
	}
}

// anyChange makes one thing of a draft another one, mostly by a little; entries come and go with the Links and the Inodes that they ask for, or without.
func anyChange(c *chance, d *draft) {
	node := d.nodes[c.below(len(d.nodes))]
	dir := d.nodes[[]int{worldRoot, worldD, worldE}[c.below(3)]]
	little := c.below(5) - 2
	switch c.below(12) {
	case 0:
		node.Uid, node.Gid = c.below(5), c.below(5)
	case 1:
		node.Xattr = c.below(14)
	case 2:
		node.Mode = c.below(515)
	case 3:
		node.Links = max(0, node.Links+little)
	case 4:
		node.last = func(r *api.Inode) { r.Start = max(0, r.Start+little) }
	case 5:
		node.last = func(r *api.Inode) { r.Size = max(0, r.Size+7*little) }
	case 6:
		if node.Kind == api.File {
			node.Size = c.below(400)
			node.Frag = min(node.Size%128, 1+c.below(4))
			node.Off = min(node.Off, 127*node.Frag)
		}
	case 7:
		to := c.below(len(d.nodes))
		dir.kids = append(dir.kids, kid{fmt.Sprint("zz", len(dir.kids)), d.nodes[to].Kind, to, 0})
		if c.below(4) > 0 {
			d.nodes[to].Links++
		}
	case 8:
		if len(dir.kids) > 0 {
			i := c.below(len(dir.kids))
			to := d.nodes[dir.kids[i].node]
			to.Links--
			dir.kids = slices.Delete(slices.Clone(dir.kids), i, i+1)
			if to.Links == 0 {
				d.super = func(s *api.Super) { s.Inodes-- }
			}
		}
	case 9:
		d.owners = [][]int{{0, 5, 300}, {0, 5}, {1, 2, 3, 4}, {1, 3, 2, 4}, {7}, {0, 1, 1}}[c.below(6)]
	case 10:
		d.places = append(d.places[:1+c.below(3)], 64+c.below(300))
	case 11:
		d.super = func(s *api.Super) {
			s.Inodes, s.IDs, s.Frags = s.Inodes+c.below(2), s.IDs+little/2, s.Frags-c.below(2)
		}
	}
}

// TestAnyBytes: rows of bytes as chance has it, some of them behind a superblock that may be.
func TestAnyBytes(t *testing.T) {
	for seed := range uint32(500) {
		c := chance(seed)
		b := mixed(seed, c.below(700))
		refuses(t, fmt.Sprint("any bytes, ", seed), b)
		n := max(len(b), 64)
		s := api.Super{Size: n, InodeAt: 64, DirAt: 64, FragAt: n, IDAt: n, XattrAt: n, Inodes: 1, IDs: 1}
		asTheModel(t, fmt.Sprint("any bytes behind a superblock, ", seed), append(superOf(s), mixed(seed, n-64)...))
	}
}
