package mount_test

import (
	"fmt"
	"slices"
	"testing"

	"lamella/api"
	"lamella/data"
	"lamella/mount"
)

// P15.1: what Mount asks for.

func TestNoBytes(t *testing.T) {
	refuses(t, "nil", nil)
	refuses(t, "empty", []byte{})
	image := built(t, "a root alone", rooted())
	for n := range image {
		refuses(t, fmt.Sprint(n, " bytes"), image[:n])
	}
	refuses(t, "a nought", []byte{0})
	refuses(t, "64 noughts", make([]byte, 64))
	refuses(t, "2^20 noughts", make([]byte, 1<<20))
	refuses(t, "2^20 noughts and 1", make([]byte, 1<<20+1))
}

func TestRootAlone(t *testing.T) {
	m := mounts(t, "a root alone", built(t, "a root alone", []api.Node{{Ino: 7, Kind: api.Dir}}))
	list, e := m.List(m.Root())
	if len(list) != 0 || e != api.OK {
		t.Errorf("List %v, error %d", list, e)
	}
	if s, e := m.Stat(m.Root()); s != (api.Stat{Kind: api.Dir, Links: 1}) || e != api.OK {
		t.Errorf("Stat %+v, error %d", s, e)
	}
	mounts(t, "a draft of it", flat(0, 0).image())
}

func TestBytesBehind(t *testing.T) {
	for what, image := range map[string][]byte{"built": built(t, "built", treeOfWorld()), "drafted": world().image()} {
		mounts(t, what, image)
		for _, more := range [][]byte{{0}, {255}, {0, 0, 255}, make([]byte, 64), image} {
			refuses(t, fmt.Sprint(what, ", with ", len(more), " more"), slices.Concat(image, more))
		}
		refuses(t, what+", with a byte ahead", slices.Concat([]byte{0}, image))
	}
}

func TestWorld(t *testing.T) {
	tells(t, "a world", mounts(t, "a world", world().image()), treeOfWorld())
	tells(t, "a world that is built", mounts(t, "a world that is built", built(t, "a world", treeOfWorld())), treeOfWorld())
}

// change is one of a world, which may then be mounted or not.
type change struct {
	what string
	ok   bool
	do   func(d *draft)
}

func tries(t *testing.T, changes []change) {
	t.Helper()
	for _, c := range changes {
		d := world()
		c.do(d)
		if c.ok {
			mounts(t, c.what, d.image())
		} else {
			refuses(t, c.what, d.image())
		}
	}
}

func inSuper(do func(s *api.Super)) func(d *draft) { return func(d *draft) { d.super = do } }

func inRecord(node int, do func(r *api.Inode)) func(d *draft) {
	return func(d *draft) { d.nodes[node].last = do }
}

func TestSuperblock(t *testing.T) {
	tries(t, []change{
		{"as it is", true, inSuper(func(s *api.Super) {})},
		{"Size of one more", false, inSuper(func(s *api.Super) { s.Size++ })},
		{"Size of one less", false, inSuper(func(s *api.Super) { s.Size-- })},
		{"InodeAt of one more", false, inSuper(func(s *api.Super) { s.InodeAt++ })},
		{"DirAt of one more", false, inSuper(func(s *api.Super) { s.DirAt++ })},
		{"DirAt of one less", false, inSuper(func(s *api.Super) { s.DirAt-- })},
		{"FragAt of one more", false, inSuper(func(s *api.Super) { s.FragAt++ })},
		{"FragAt of one less", false, inSuper(func(s *api.Super) { s.FragAt-- })},
		{"IDAt of one more", false, inSuper(func(s *api.Super) { s.IDAt++ })},
		{"IDAt of one less", false, inSuper(func(s *api.Super) { s.IDAt-- })},
		{"XattrAt of one more", false, inSuper(func(s *api.Super) { s.XattrAt++ })},
		{"XattrAt of one less", false, inSuper(func(s *api.Super) { s.XattrAt-- })},
		{"places that fall", false, inSuper(func(s *api.Super) { s.InodeAt = 63 })},
	})
	image := world().image()
	for at := range 64 {
		for bit := range 8 {
			image[at] ^= 1 << bit
			refuses(t, fmt.Sprint("the byte ", at, ", the bit ", bit), image)
			image[at] ^= 1 << bit
		}
	}
}

func TestTables(t *testing.T) {
	tries(t, []change{
		{"Frags of one more", false, inSuper(func(s *api.Super) { s.Frags++ })},
		{"Frags of one less", false, inSuper(func(s *api.Super) { s.Frags-- })},
		{"Frags of none", false, inSuper(func(s *api.Super) { s.Frags = 0 })},
		{"IDs of one more", false, inSuper(func(s *api.Super) { s.IDs++ })},
		{"IDs of one less", false, inSuper(func(s *api.Super) { s.IDs-- })},
		{"one more place, and so in Frags", true, func(d *draft) { d.places = append(d.places, 64) }},
		{"one place less, and so in Frags", true, func(d *draft) { d.places = d.places[:2] }},
		{"one more owner, and so in IDs", true, func(d *draft) { d.owners = []int{0, 5, 300, 301, 302} }},
		{"one owner less, and so in IDs", true, func(d *draft) { d.owners = d.owners[:3] }},
		{"a byte behind the places", false, func(d *draft) { d.rows = func(r *rows) { r.places = append(r.places, 0) } }},
		{"a byte of the places less", false, func(d *draft) { d.rows = func(r *rows) { r.places = r.places[:len(r.places)-1] } }},
		{"a byte behind the owners", false, func(d *draft) { d.rows = func(r *rows) { r.owners = append(r.owners, 0) } }},
		{"a byte of the owners less", false, func(d *draft) { d.rows = func(r *rows) { r.owners = r.owners[:len(r.owners)-1] } }},
		{"no owners' row", false, func(d *draft) { d.rows = func(r *rows) { r.owners = nil } }},
		{"no places' row", false, func(d *draft) { d.rows = func(r *rows) { r.places = nil } }},
		{"owners, the first twice", false, func(d *draft) { d.owners = []int{0, 0, 300, 65535} }},
		{"owners, one in the middle twice", false, func(d *draft) { d.owners = []int{0, 5, 5, 65535} }},
		{"owners, the last twice", false, func(d *draft) { d.owners = []int{0, 5, 65535, 65535} }},
		{"owners that fall first", false, func(d *draft) { d.owners = []int{6, 5, 300, 65535} }},
		{"owners that fall in the middle", false, func(d *draft) { d.owners = []int{0, 300, 5, 65535} }},
		{"owners that fall last", false, func(d *draft) { d.owners = []int{0, 5, 300, 299} }},
		{"owners by their lower byte alone", true, func(d *draft) { d.owners = []int{255, 256, 511, 512} }},
		{"places that fall, and far behind", true, func(d *draft) { d.places = []int{1<<32 - 1, 0, 64} }},
	})
	most := flat(1023, 0)
	most.owners = nil
	for i := range 2048 {
		most.owners = append(most.owners, 2*i+7)
	}
	for i, n := range most.nodes {
		n.Uid, n.Gid = 2*i, 2*i+1
	}
	mounts(t, "2048 owners", most.image())
	most.owners[2047] = most.owners[2046]
	refuses(t, "2048 owners, the last twice", most.image())
}

func TestOwnersOfNodes(t *testing.T) {
	for node := range len(world().nodes) {
		for uid := range 7 {
			for _, other := range []int{0, 3} {
				what := fmt.Sprintf("node %d: %d, %d", node, uid, other)
				tries(t, []change{
					{what + " as Uid, Gid", uid < 4, inRecord(node, func(r *api.Inode) { r.Uid, r.Gid = uid, other })},
					{what + " as Gid, Uid", uid < 4, inRecord(node, func(r *api.Inode) { r.Gid, r.Uid = uid, other })},
				})
			}
		}
		tries(t, []change{
			{fmt.Sprint("node ", node, ": Uid 2047"), false, inRecord(node, func(r *api.Inode) { r.Uid = 2047 })},
			{fmt.Sprint("node ", node, ": Gid 2047"), false, inRecord(node, func(r *api.Inode) { r.Gid = 2047 })},
		})
	}
}

// TestKinds: an entry tells each other Kind than the record has, also where the record was come to ahead.
func TestKinds(t *testing.T) {
	for _, dir := range []int{worldRoot, worldD} {
		for i, k := range world().nodes[dir].kids {
			for kind := range 6 {
				tries(t, []change{{fmt.Sprintf("%s as a kind %d", k.name, kind), kind == k.kind, func(d *draft) { d.nodes[dir].kids[i].kind = kind }}})
			}
		}
	}
	tries(t, []change{
		{"a file at the ref of a symbolic link", false, func(d *draft) {
			d.nodes[worldRoot].kids[4].node = worldL
			d.nodes[worldL].Links, d.super = 2, func(s *api.Super) { s.Inodes-- }
		}},
		{"a symbolic link of two names", true, func(d *draft) {
			d.nodes[worldRoot].kids[4] = kid{"z", api.Link, worldL, 0}
			d.nodes[worldL].Links, d.super = 2, func(s *api.Super) { s.Inodes-- }
		}},
		{"a record of no kind", false, func(d *draft) { d.rows = func(r *rows) { r.inodes[21] = 4 } }},
	})
}

func TestRecordsThatMayNotBe(t *testing.T) {
	for node, n := range world().nodes {
		what := fmt.Sprint("node ", node)
		tries(t, []change{
			{what + ": Mode 511", true, inRecord(node, func(r *api.Inode) { r.Mode = 511 })},
			{what + ": Mode 512", false, inRecord(node, func(r *api.Inode) { r.Mode = 512 })},
			{what + ": Links 0", false, inRecord(node, func(r *api.Inode) { r.Links = 0 })},
			{what + ": Links 1025", false, inRecord(node, func(r *api.Inode) { r.Links = 1025 })},
		})
		if n.Kind == api.File {
			tries(t, []change{
				{what + ": Size 4097", false, inRecord(node, func(r *api.Inode) { r.Size, r.Frag, r.Off = 4097, 1, 0 })},
				{what + ": a fragment without a tail", false, inRecord(node, func(r *api.Inode) { r.Size, r.Frag, r.Off = 0, 1, 0 })},
				{what + ": a tail without a fragment", false, inRecord(node, func(r *api.Inode) { r.Size, r.Frag, r.Off = 7, 0, 0 })},
				{what + ": an offset of 128", false, inRecord(node, func(r *api.Inode) { r.Size, r.Frag, r.Off = 7, 1, 128 })},
			})
		}
	}
	tries(t, []change{
		{"a symbolic link with a nought", false, func(d *draft) { d.nodes[worldL].Target = "a\x00b" }},
		{"a symbolic link to nothing", false, func(d *draft) { d.nodes[worldL].Target = "" }},
		{"a symbolic link of 200 bytes", true, func(d *draft) { d.nodes[worldL].Target = string(mixed(1, 200)) }},
		{"a symbolic link of 201 bytes", false, func(d *draft) { d.nodes[worldL].Target = string(mixed(1, 201)) }},
		{"the inodes' last byte less", false, func(d *draft) { d.rows = func(r *rows) { r.inodes = r.inodes[:len(r.inodes)-1] } }},
		{"a byte behind the inodes", true, func(d *draft) { d.rows = func(r *rows) { r.inodes = append(r.inodes, 0) } }},
	})
}

func TestXattrsOfNodes(t *testing.T) {
	behind := 1 + len(world().xattrs)
	first := 1 + 1 + 7 + 2
	for node := range len(world().nodes) {
		set := func(x int) func(d *draft) { return inRecord(node, func(r *api.Inode) { r.Xattr = x }) }
		what := fmt.Sprint("node ", node, ": Xattr ")
		tries(t, []change{
			{what + "none", true, set(0)},
			{what + "of the first", true, set(1)},
			{what + "of the second", true, set(first)},
			{what + "inside the first", false, set(2)},
			{what + "one ahead of the second", false, set(first - 1)},
			{what + "one behind the second's place", false, set(first + 1)},
			{what + "of the last byte", false, set(refOf(behind-2) + 1)},
			{what + "behind all", false, set(refOf(behind-1) + 1)},
			{what + "at 128", false, set(129)},
			{what + "at 2^32 - 2", false, set(1<<32 - 1)},
		})
	}
	tries(t, []change{
		{"a byte of the attributes less", false, func(d *draft) { d.xattrs = d.xattrs[:len(d.xattrs)-1] }},
		{"a byte behind the attributes", true, func(d *draft) { d.xattrs = append(d.xattrs, 0) }},
		{"no attributes", false, func(d *draft) { d.xattrs = nil }},
		{"no attributes, of which none is asked", true, func(d *draft) {
			d.xattrs = nil
			for _, n := range d.nodes {
				n.Xattr = 0
			}
		}},
		{"attributes of one name", false, func(d *draft) { d.xattrs[first-1+1+1+1+1+1] = 'a' }},
		{"none, and none of them", false, func(d *draft) { d.xattrs[0] = 0 }},
	})
}

func TestBlocksOfFiles(t *testing.T) {
	z := world().nodes[worldZ].Start
	end := 64 + len(world().blocks)
	if z+135 != end {
		t.Fatal(z, end)
	}
	start := func(node, at int) func(d *draft) { return inRecord(node, func(r *api.Inode) { r.Start = at }) }
	size := func(node, n int) func(d *draft) { return inRecord(node, func(r *api.Inode) { r.Size = n }) }
	tries(t, []change{
		{"blocks that end at InodeAt", true, start(worldZ, z)},
		{"blocks that end one byte behind", false, start(worldZ, z+1)},
		{"blocks that begin one byte ahead", false, start(worldZ, z-1)},
		{"one more block than there is ahead of InodeAt", false, size(worldZ, 256)},
		{"blocks at 64", true, start(worldZ, 64)},
		{"blocks at 63", false, start(worldZ, 63)},
		{"blocks at 0", false, start(worldZ, 0)},
		{"blocks at InodeAt", false, start(worldZ, end)},
		{"blocks far behind", false, start(worldZ, 1<<32-1)},
		{"two blocks, the second one ends at InodeAt", true, start(worldA, z-135)},
		{"two blocks, the second one is none", false, start(worldA, z)},
		{"a file without blocks at 0", true, start(worldT, 0)},
		{"a file without blocks at 1", true, start(worldT, 1)},
		{"a file without blocks at 63", true, start(worldT, 63)},
		{"a file without blocks at InodeAt", true, start(worldT, end)},
		{"a file without blocks behind all", true, start(worldT, 1<<32-1)},
		{"an empty file behind all", true, inRecord(worldT, func(r *api.Inode) { r.Start, r.Size, r.Frag = 1<<32-1, 0, 0 })},
		{"127 bytes, behind all", true, inRecord(worldT, func(r *api.Inode) { r.Start, r.Size = 1<<32-1, 127 })},
		{"129 bytes, behind all", false, inRecord(worldT, func(r *api.Inode) { r.Start, r.Size = 1<<32-1, 129 })},
		{"129 bytes, at 0", false, inRecord(worldT, func(r *api.Inode) { r.Start, r.Size = 0, 129 })},
	})
}

// TestBlocksThatEndNearInodeAt: the same frame, with InodeAt one byte ahead of its end, at it, and one byte behind. Where it goes one byte too far, that is the inodes' first byte: a frame there is all the same, as sums are not looked at.
func TestBlocksThatEndNearInodeAt(t *testing.T) {
	for gap := -1; gap <= 1; gap++ {
		d := flat(1, 0)
		d.blocks = append(storedFrame(mixed(1, 128)), make([]byte, max(gap, 0))...)
		d.nodes[1].Start, d.nodes[1].Size = 64, 128
		what := fmt.Sprint("blocks that end ", gap, " ahead of InodeAt")
		if gap >= 0 {
			mounts(t, what, d.image())
			continue
		}
		d.blocks = d.blocks[:134]
		if _, e := data.Walk(d.image(), 64, 128, 64+135); e != api.OK {
			t.Fatalf("%s: no frame: error %d", what, e)
		}
		refuses(t, what, d.image())
		d.nodes[1].Start, d.nodes[1].Size = 0, 0
		mounts(t, what+", of an empty file", d.image())
	}
}

// TestBlocksThatBeginNear64: a hole whose first bytes are the superblock's last noughts is a frame, too, but no file's.
func TestBlocksThatBeginNear64(t *testing.T) {
	for start := 62; start <= 64; start++ {
		d := flat(1, 0)
		d.blocks = slices.Concat([]byte{0, 0, 255}[64-start:], storedFrame(mixed(1, 128)))
		d.nodes[1].Start, d.nodes[1].Size = start, 256
		what := fmt.Sprint("blocks that begin at ", start)
		image := d.image()
		if next, e := data.Walk(image, start, 256, start+3+135); next != start+3+135 || e != api.OK {
			t.Fatalf("%s: no frames: error %d", what, e)
		}
		if start == 64 {
			mounts(t, what, image)
			continue
		}
		refuses(t, what, image)
		d.nodes[1].Start, d.nodes[1].Size = 0, 0
		mounts(t, what+", of an empty file", d.image())
	}
}

// TestBlocksOfHoles: frames of three bytes each, as close to 64 and InodeAt as can be.
func TestBlocksOfHoles(t *testing.T) {
	d := flat(1, 0)
	for many := range 34 {
		d.blocks = make([]byte, 0)
		for range many {
			d.blocks = append(d.blocks, 0, 0, 255)
		}
		for blocks := range 33 {
			d.nodes[1].Start, d.nodes[1].Size = 64, 128*blocks
			what := fmt.Sprintf("%d holes, of %d", blocks, many)
			if blocks <= many {
				mounts(t, what, d.image())
			} else {
				refuses(t, what, d.image())
			}
		}
	}
}

func TestFragmentsOfFiles(t *testing.T) {
	for _, node := range []int{worldA, worldT} {
		for number := 1; number <= 5; number++ {
			what := fmt.Sprintf("node %d: the fragment %d", node, number)
			tries(t, []change{{what, number <= 3, inRecord(node, func(r *api.Inode) { r.Frag = number })}})
		}
		tries(t, []change{{"the fragment 1024", false, inRecord(node, func(r *api.Inode) { r.Frag = 1024 })}})
	}
	none := flat(1, 0)
	none.nodes[1].Size, none.nodes[1].Frag = 1, 1
	refuses(t, "a fragment, of none", none.image())
	none.places = []int{0}
	mounts(t, "a fragment that can't be read", none.image())
}

func TestListsOfDirectories(t *testing.T) {
	lists := len(world().plain().lists)
	size := func(node, n int) func(d *draft) { return inRecord(node, func(r *api.Inode) { r.Size = n }) }
	start := func(node, at int) func(d *draft) { return inRecord(node, func(r *api.Inode) { r.Start = at }) }
	names := func(names ...string) func(d *draft) {
		return func(d *draft) {
			for i, s := range names {
				d.nodes[worldD].kids[i].name = s
			}
		}
	}
	if lists != 7*7 {
		t.Fatal(lists)
	}
	tries(t, []change{
		{"the root's list less a byte", false, size(worldRoot, 34)},
		{"the root's list and a byte", false, size(worldRoot, 36)},
		{"the root's list less an entry", false, size(worldRoot, 28)},
		{"the root's list, from its second byte on", false, start(worldRoot, 1)},
		{"a list of no entry, in the place of two", false, size(worldD, 0)},
		{"a list's bytes that are not there", false, size(worldD, 15)},
		{"a list that begins behind all", false, start(worldD, lists)},
		{"a list far behind", false, start(worldD, 1<<32-1)},
		{"a list of 2^20 bytes", false, size(worldD, 1<<20)},
		{"a list of one more than 2^20 bytes", false, size(worldD, 1<<20+1)},
		{"an empty list behind all", true, start(worldE, lists)},
		{"an empty list far behind", true, start(worldE, 1<<32-1)},
		{"an empty list inside another", true, start(worldE, 3)},
		{"an empty directory with a byte", false, size(worldE, 1)},
		{"names that fall", false, names("f", "e")},
		{"a name twice", false, names("f", "f")},
		{"names that rise", true, names("a", "aa")},
		{"an empty name", false, names("", "f")},
		{"a name .", false, names(".", "f")},
		{"a name ..", false, names("..", "f")},
		{"a name with a slash", false, names("a/b", "f")},
		{"a name with a nought", false, names("a\x00", "f")},
		{"a name of 255 bytes", true, names(string(mixed(3, 255)), "\xff\xff")},
		{"no lists at all", false, func(d *draft) { d.rows = func(r *rows) { r.lists = nil } }},
		{"a byte behind the lists", true, func(d *draft) { d.rows = func(r *rows) { r.lists = append(r.lists, 9) } }},
		{"a ref that is no record's", false, func(d *draft) { d.nodes[worldD].kids[1] = kid{"f", api.File, -1, 1} }},
		{"a ref far behind", false, func(d *draft) { d.nodes[worldD].kids[1] = kid{"f", api.File, -1, 1<<32 - 1} }},
	})
}

func TestRoots(t *testing.T) {
	for node, n := range world().nodes {
		what := fmt.Sprint("a root that is the node ", node)
		d := world()
		alone := &draft{owners: d.owners, places: d.places, xattrs: d.xattrs, blocks: d.blocks, nodes: []*piece{{Inode: n.Inode}}}
		alone.nodes[0].Links = 1
		if n.Kind == api.Dir {
			mounts(t, what+", alone", alone.image())
		} else {
			refuses(t, what+", alone", alone.image())
		}
		if d.root = node; node != worldRoot {
			refuses(t, what, d.image())
		}
	}
	d := world()
	d.root, d.super = worldE, func(s *api.Super) { s.Inodes = 1 }
	mounts(t, "a root that is below another", d.image())
	d.root, d.super = worldD, func(s *api.Super) { s.Inodes = 3 }
	refuses(t, "a root with a file of too many Links", d.image())
	d.nodes[worldA].Links = 1
	mounts(t, "a root with a file", d.image())
	tries(t, []change{
		{"Root of one more", false, inSuper(func(s *api.Super) { s.Root++ })},
		{"Root behind all", false, inSuper(func(s *api.Super) { s.Root = 1<<32 - 1 })},
	})
}

func TestDirectoriesComeToTwice(t *testing.T) {
	add := func(dir int, k kid) func(d *draft) {
		return func(d *draft) { d.nodes[dir].kids = append(d.nodes[dir].kids, k) }
	}
	for links := 1; links <= 3; links++ {
		for what, do := range map[string]func(d *draft){
			"a directory of two lists":            add(worldRoot, kid{"zz", api.Dir, worldE, 0}),
			"a directory with two entries":        add(worldD, kid{"ff", api.Dir, worldE, 0}),
			"an empty directory that has itself":  add(worldE, kid{"e", api.Dir, worldE, 0}),
			"a directory that has itself":         add(worldD, kid{"g", api.Dir, worldD, 0}),
			"a directory that has the one above":  add(worldE, kid{"e", api.Dir, worldD, 0}),
			"a directory that has the root":       add(worldD, kid{"g", api.Dir, worldRoot, 0}),
			"a directory below that has the root": add(worldE, kid{"e", api.Dir, worldRoot, 0}),
			"a root that has itself":              add(worldRoot, kid{"zz", api.Dir, worldRoot, 0}),
		} {
			d := world()
			do(d)
			d.nodes[worldE].Links, d.nodes[worldD].Links, d.nodes[worldRoot].Links = links, links, links
			refuses(t, what, d.image())
		}
	}
	d := &draft{owners: []int{0}, nodes: []*piece{{Inode: api.Inode{Kind: api.Dir, Links: 1}, kids: []kid{{"a", api.Dir, 0, 0}}}}}
	refuses(t, "a root that has nothing but itself", d.image())
}

func TestFilesOfSeveralLists(t *testing.T) {
	add := func(links int, at ...int) func(d *draft) {
		return func(d *draft) {
			for _, dir := range at {
				d.nodes[dir].kids = append(d.nodes[dir].kids, kid{"zz", api.File, worldZ, 0})
			}
			d.nodes[worldZ].Links = links
		}
	}
	tries(t, []change{
		{"a file of two names in one list", true, add(2, worldRoot)},
		{"a file of two names in two lists", true, add(2, worldE)},
		{"a file of four names in three lists", true, add(4, worldE, worldD, worldRoot)},
		{"a file of four names and three Links", false, add(3, worldE, worldD, worldRoot)},
		{"a file of four names and five Links", false, add(5, worldE, worldD, worldRoot)},
		{"a file of two names and one Link", false, add(1, worldE)},
	})
}

func TestCounts(t *testing.T) {
	links := func(node, more int) func(d *draft) { return inRecord(node, func(r *api.Inode) { r.Links += more }) }
	for node := range len(world().nodes) {
		tries(t, []change{
			{fmt.Sprint("node ", node, ": Links of one more"), false, links(node, 1)},
			{fmt.Sprint("node ", node, ": Links of one less"), false, links(node, -1)},
			{fmt.Sprint("node ", node, ": Links as they are"), true, links(node, 0)},
		})
	}
	tries(t, []change{
		{"Inodes of one more", false, inSuper(func(s *api.Super) { s.Inodes++ })},
		{"Inodes of one less", false, inSuper(func(s *api.Super) { s.Inodes-- })},
		{"Inodes of one", false, inSuper(func(s *api.Super) { s.Inodes = 1 })},
		{"Inodes as many as names", false, inSuper(func(s *api.Super) { s.Inodes = 8 })},
		{"Inodes of 1024", false, inSuper(func(s *api.Super) { s.Inodes = 1024 })},
		{"a record that no list names", true, func(d *draft) {
			d.nodes = append(d.nodes, &piece{Inode: api.Inode{Kind: api.File, Links: 1}})
			d.super = func(s *api.Super) { s.Inodes = 7 }
		}},
		{"a record that no list names, in Inodes", false, func(d *draft) {
			d.nodes = append(d.nodes, &piece{Inode: api.Inode{Kind: api.File, Links: 1}})
		}},
	})
	alone := flat(0, 0)
	alone.super = func(s *api.Super) { s.Inodes = 2 }
	refuses(t, "a root alone, Inodes 2", alone.image())
	alone.super = func(s *api.Super) { s.Inodes = 0 }
	refuses(t, "a root alone, Inodes 0", alone.image())
}

func TestDepth(t *testing.T) {
	for _, kind := range []int{api.Dir, api.File, api.Link} {
		for names := 1; names <= 16; names++ {
			mounts(t, fmt.Sprintf("the kind %d, %d names", kind, names), deep(names, kind).image())
		}
		for _, names := range []int{17, 18, 40} {
			refuses(t, fmt.Sprintf("the kind %d, %d names", kind, names), deep(names, kind).image())
		}
	}
	// a file of two names, one of them in the deepest directory, the other come to ahead of it or behind it
	for names := 15; names <= 17; names++ {
		d := deep(names-1, api.Dir)
		last := len(d.nodes) - 1
		d.nodes = append(d.nodes, &piece{Inode: api.Inode{Kind: api.File, Links: 2}})
		d.nodes[last].kids = []kid{{"a", api.File, last + 1, 0}}
		for what, kids := range map[string][]kid{
			"ahead":  {{"a", api.File, last + 1, 0}, {"n", api.Dir, 1, 0}},
			"behind": {{"n", api.Dir, 1, 0}, {"z", api.File, last + 1, 0}},
		} {
			d.nodes[0].kids = kids
			what := fmt.Sprintf("%d names, and one %s", names, what)
			if names <= 16 {
				mounts(t, what, d.image())
			} else {
				refuses(t, what, d.image())
			}
		}
	}
}

func TestMany(t *testing.T) {
	for _, x := range []struct {
		files, others int
		ok            bool
	}{
		{1022, 0, true}, {1023, 0, true}, {1024, 0, false}, {1025, 0, false},
		{0, 1023, true}, {0, 1024, false},
		{1022, 1, true}, {1021, 2, true}, {1022, 2, false}, {1023, 1, false},
		{500, 523, true}, {500, 524, false}, {1, 1022, true}, {1, 1023, false},
	} {
		d := flat(x.files, x.others)
		what := fmt.Sprintf("%d files and %d names of one", x.files, x.others)
		if x.ok {
			mounts(t, what, d.image())
			continue
		}
		refuses(t, what, d.image())
		if len(d.nodes) > 1024 { // a superblock has room for 1024 alone
			d.super = func(s *api.Super) { s.Inodes = 1024 }
			refuses(t, what+", Inodes 1024", d.image())
		}
	}
	// the same names, in several directories
	for names := 1023; names <= 1025; names++ {
		d := flat(0, 0)
		d.nodes = append(d.nodes, &piece{Inode: api.Inode{Kind: api.File, Links: names - 1 - 20}})
		for i := range 20 {
			d.nodes[0].kids = append(d.nodes[0].kids, kid{fmt.Sprintf("d%02d", i), api.Dir, len(d.nodes), 0})
			d.nodes = append(d.nodes, &piece{Inode: api.Inode{Kind: api.Dir, Links: 1}})
		}
		for i := range names - 1 - 20 {
			in := d.nodes[2+i%20]
			in.kids = append(in.kids, kid{fmt.Sprintf("f%04d", i), api.File, 1, 0})
		}
		what := fmt.Sprint(names, " names in 20 directories")
		if names <= 1024 {
			mounts(t, what, d.image())
		} else {
			refuses(t, what, d.image())
		}
	}
	refuses(t, "a list of 5000 names", flat(0, 5000).image())
}

// TestRowsEnd: a ref may lead to a frame that stands behind its row, and is whole; it is none of the row.
func TestRowsEnd(t *testing.T) {
	d := flat(1, 0)
	d.xattrs = recordOf(api.Inode{Kind: api.Dir, Links: 1})
	mounts(t, "a record among the attributes", d.image())
	d.super = func(s *api.Super) { s.Inodes, s.Root = 1, 256*(s.XattrAt-s.InodeAt) }
	refuses(t, "a root among the attributes", d.image())

	d = flat(1, 0)
	d.xattrs = d.plain().lists
	mounts(t, "a list among the attributes", d.image())
	d.nodes[0].last = func(r *api.Inode) { r.Start = 256 * (len(stored(d.xattrs)) + len(stored([]byte{0, 0}))) }
	refuses(t, "the root's list among the attributes", d.image())

	d = flat(1, 0)
	d.xattrs = text(text([]byte{1}, "n"), "v")
	d.nodes[0].Xattr = 1
	d.owners, d.places = nil, nil
	for i := range 64 { // a frame that is full, so that a row that went on would go on behind it
		d.owners = append(d.owners, i)
	}
	for range 32 {
		d.places = append(d.places, 64)
	}
	mounts(t, "full frames of owners and places", d.image())
	d.super = func(s *api.Super) { s.IDs++ }
	refuses(t, "more owners than a full frame", d.image())
	d.super = func(s *api.Super) { s.Frags++ }
	refuses(t, "more places than a full frame", d.image())
}

// TestFramesOfRows: each frame of a row of inodes, lists, attributes, places and owners is needed; a byte of it is turned, its sum is not.
func TestFramesOfRows(t *testing.T) {
	image := built(t, "owners and fragments", ownersAndFragments())
	m := mounts(t, "owners and fragments", image)
	l, _ := modelOf(image)
	tells(t, "owners and fragments", m, ownersAndFragments())
	for at := l.super.InodeAt; at < len(image); at++ {
		image[at] ^= 1
		if m, e := mount.Mount(image); e != api.ErrCorrupt || m != nil {
			t.Fatalf("the byte %d: error %d", at, e)
		}
		image[at] ^= 1
	}
}

func ownersAndFragments() []api.Node {
	var l []api.Node
	for i := range 70 {
		n := attr(file(fmt.Sprintf("f%02d", i), mixed(uint32(i), 65+i%60)), 420, 100+i, 300-i)
		l = append(l, attributed(n, xattr("n", fmt.Sprint(i))))
	}
	return rooted(l...)
}
