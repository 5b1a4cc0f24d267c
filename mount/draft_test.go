package mount_test

import (
	"encoding/binary"
	"hash/crc32"
	"slices"
	"strings"

	"lamella/api"
)

// draft is an image that is put together by hand: each number in it can be another one, and all sums are right. Its frames are stored, however well they would pack, so that the ref of a byte hangs on nothing but its number in its row.
type draft struct {
	blocks         []byte
	nodes          []*piece // as their records stand in the row of inodes
	places, owners []int
	xattrs         []byte
	root           int                // which of the nodes
	rows           func(r *rows)      // if there is one, the last word on the rows
	super          func(s *api.Super) // likewise on the superblock
}

// piece is a record, of a directory with what its list names.
type piece struct {
	api.Inode
	kids []kid
	last func(r *api.Inode) // if there is one, the last word on the record: Start and Size of a directory are known then
}

// kid is an entry of which the ref is that of a node; or the ref as it stands here, if node is below 0.
type kid struct {
	name            string
	kind, node, ref int
}

// rows are the bytes of an image's rows, ahead of being put in frames.
type rows struct{ inodes, lists, places, owners, xattrs []byte }

func number(b []byte, x, wide int) []byte {
	return append(b, binary.LittleEndian.AppendUint32(nil, uint32(x))[:wide]...)
}

func text(b []byte, s string) []byte { return append(append(b, byte(len(s))), s...) }

// stored is a row of bytes in frames.
func stored(b []byte) []byte {
	var frames []byte
	for part := range slices.Chunk(b, 128) {
		frames = append(frames, storedFrame(part)...)
	}
	return frames
}

func storedFrame(b []byte) []byte {
	f := number(nil, len(b)+32768, 2)
	f = append(f, 255-f[0]^f[1])
	f = number(f, int(crc32.ChecksumIEEE(b)), 4)
	return append(f, b...)
}

// refOf is the ref of a byte of such a row: a full frame has 135 bytes.
func refOf(number int) int { return number/128*135*256 + number%128 }

func recordOf(r api.Inode) []byte {
	b := number(nil, r.Kind, 1)
	for _, x := range []int{r.Mode, r.Uid, r.Gid, r.Links} {
		b = number(b, x, 2)
	}
	b = number(b, r.Xattr, 4)
	switch r.Kind {
	case api.Dir:
		return number(number(b, r.Start, 4), r.Size, 4)
	case api.File:
		return number(number(number(number(b, r.Start, 4), r.Size, 2), r.Frag, 2), r.Off, 1)
	}
	return text(b, r.Target)
}

func superOf(s api.Super) []byte {
	b := []byte("LMLA")
	for _, x := range []int{s.Size, s.InodeAt, s.DirAt, s.FragAt, s.IDAt, s.XattrAt, s.Root} {
		b = number(b, x, 4)
	}
	for _, x := range []int{s.Inodes, s.IDs, s.Frags} {
		b = number(b, x, 2)
	}
	b = number(b, int(crc32.ChecksumIEEE(b)), 4)
	return append(b, make([]byte, 64-len(b))...)
}

// ref is that of a node.
func (d *draft) ref(node int) int {
	ahead := 0
	for _, n := range d.nodes[:node] {
		ahead += len(recordOf(n.Inode))
	}
	return refOf(ahead)
}

// listOf is the bytes of a directory's list, whether it may be or not.
func listOf(kids []kid, refs []int) []byte {
	var b []byte
	for _, k := range kids {
		ref := k.ref
		if k.node >= 0 {
			ref = refs[k.node]
		}
		b = number(number(text(b, k.name), k.kind, 1), ref, 4)
	}
	return b
}

func (d *draft) plain() rows {
	var refs []int
	ahead := 0
	for _, n := range d.nodes {
		refs = append(refs, refOf(ahead))
		ahead += len(recordOf(n.Inode))
	}
	var r rows
	for _, n := range d.nodes {
		record := n.Inode
		if record.Kind == api.Dir {
			list := listOf(n.kids, refs)
			record.Start, record.Size = refOf(len(r.lists)), len(list)
			r.lists = append(r.lists, list...)
		}
		if n.last != nil {
			n.last(&record)
		}
		r.inodes = append(r.inodes, recordOf(record)...)
	}
	for _, x := range d.places {
		r.places = number(r.places, x, 4)
	}
	for _, x := range d.owners {
		r.owners = number(r.owners, x, 2)
	}
	r.xattrs = slices.Clone(d.xattrs)
	return r
}

func (d *draft) image() []byte {
	r := d.plain()
	if d.rows != nil {
		d.rows(&r)
	}
	parts := [][]byte{d.blocks, stored(r.inodes), stored(r.lists), stored(r.places), stored(r.owners), stored(r.xattrs)}
	ends := []int{64}
	for _, b := range parts {
		ends = append(ends, ends[len(ends)-1]+len(b))
	}
	s := api.Super{
		InodeAt: ends[1], DirAt: ends[2], FragAt: ends[3], IDAt: ends[4], XattrAt: ends[5], Size: ends[6],
		Inodes: len(d.nodes), IDs: len(d.owners), Frags: len(d.places), Root: d.ref(d.root),
	}
	if d.super != nil {
		d.super(&s)
	}
	return slices.Concat(append([][]byte{superOf(s)}, parts...)...)
}

// The nodes of a world, by their numbers.
const (
	worldRoot = iota
	worldA
	worldD
	worldL
	worldT
	worldZ
	worldE
)

// world is a draft that may be mounted; of owners and of fragments it has one more than its nodes need. The blocks of z end where the blocks end.
func world() *draft {
	tails := slices.Concat([]byte("..."), tailOfA(), []byte("behind"))
	blocks := slices.Concat(storedFrame(tails), storedFrame([]byte("tailt")))
	second, a := 64+len(storedFrame(tails)), 64+len(blocks)
	blocks = slices.Concat(blocks, stored(dataOfA()[:256]))
	z := 64 + len(blocks)
	blocks = slices.Concat(blocks, stored(dataOfZ()))
	first := text(text([]byte{1}, "user.a"), "v")
	return &draft{
		blocks: blocks,
		places: []int{64, second, second},
		owners: []int{0, 5, 300, 65535},
		xattrs: append(first, text(text(text(text([]byte{2}, "a"), ""), "b"), strings.Repeat("v", 200))...),
		nodes: []*piece{
			{Inode: api.Inode{Kind: api.Dir, Mode: 493, Links: 1}, kids: []kid{
				{"a", api.File, worldA, 0}, {"d", api.Dir, worldD, 0}, {"l", api.Link, worldL, 0}, {"t", api.File, worldT, 0}, {"z", api.File, worldZ, 0},
			}},
			{Inode: api.Inode{Kind: api.File, Mode: 420, Uid: 1, Gid: 2, Links: 2, Start: a, Size: 300, Frag: 1, Off: 3}},
			{Inode: api.Inode{Kind: api.Dir, Mode: 448, Uid: 2, Gid: 1, Links: 1, Xattr: 1}, kids: []kid{
				{"e", api.Dir, worldE, 0}, {"f", api.File, worldA, 0},
			}},
			{Inode: api.Inode{Kind: api.Link, Mode: 511, Links: 1, Xattr: 1 + len(first), Target: "d/f"}},
			{Inode: api.Inode{Kind: api.File, Links: 1, Size: 5, Frag: 2}},
			{Inode: api.Inode{Kind: api.File, Mode: 1, Links: 1, Xattr: 1, Start: z, Size: 128}},
			{Inode: api.Inode{Kind: api.Dir, Mode: 2, Links: 1}},
		},
	}
}

func dataOfA() []byte { return mixed(1, 300) }

func tailOfA() []byte { return dataOfA()[256:] }

func dataOfZ() []byte { return mixed(2, 128) }

// treeOfWorld is what a world should tell.
func treeOfWorld() []api.Node {
	first, second := xattr("user.a", "v"), []api.Xattr{xattr("a", ""), xattr("b", strings.Repeat("v", 200))}
	return rooted(
		one(1, attr(file("a", dataOfA()), 420, 5, 300)),
		attributed(attr(dir("d"), 448, 300, 5), first),
		attr(dir("d/e"), 2, 0, 0),
		one(1, attr(file("d/f", dataOfA()), 420, 5, 300)),
		attributed(attr(link("l", "d/f"), 511, 0, 0), second...),
		file("t", []byte("tailt")),
		attributed(attr(file("z", dataOfZ()), 1, 0, 0), first),
	)
}

// flat is a draft of a root with so many names: the first ones are files of one name each, the others are all of one more file, if there are others.
func flat(files, others int) *draft {
	d := &draft{owners: []int{0}, nodes: []*piece{{Inode: api.Inode{Kind: api.Dir, Links: 1}}}}
	root := d.nodes[0]
	enter := func(node int) {
		i := len(root.kids)
		root.kids = append(root.kids, kid{string([]byte{'f', byte('a' + i/100), byte('0' + i/10%10), byte('0' + i%10)}), api.File, node, 0})
	}
	for range files {
		d.nodes = append(d.nodes, &piece{Inode: api.Inode{Kind: api.File, Links: 1}})
		enter(len(d.nodes) - 1)
	}
	if others > 0 {
		d.nodes = append(d.nodes, &piece{Inode: api.Inode{Kind: api.File, Links: others}})
	}
	for range others {
		enter(len(d.nodes) - 1)
	}
	return d
}

// deep is a draft of directories, each in the one ahead, so that the last node, of some kind, has so many names.
func deep(names, kind int) *draft {
	d := &draft{owners: []int{0}, nodes: []*piece{{Inode: api.Inode{Kind: api.Dir, Links: 1}}}}
	for i := range names {
		k := api.Dir
		if i == names-1 {
			k = kind
		}
		last := d.nodes[len(d.nodes)-1]
		last.kids = append(last.kids, kid{"n", k, len(d.nodes), 0})
		d.nodes = append(d.nodes, &piece{Inode: api.Inode{Kind: k, Links: 1}})
		if k == api.Link {
			d.nodes[len(d.nodes)-1].Target = "t"
		}
	}
	return d
}
