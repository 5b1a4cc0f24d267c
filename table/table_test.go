package table_test

import (
	"math"
	"slices"
	"testing"

	"lamella/api"
	"lamella/crc"
	"lamella/frame"
	"lamella/meta"
	"lamella/table"
)

// mixed is n bytes, the same ones in each run of the tests.
func mixed(seed uint32, n int) []byte {
	b := make([]byte, n)
	for i := range b {
		seed = seed*1664525 + 1013904223
		b[i] = byte(seed >> 16)
	}
	return b
}

func newTable() *crc.Table {
	t := crc.New()
	return &t
}

// strange is a table of no rule.
func strange() *crc.Table {
	var t crc.Table
	for i := range t {
		t[i] = uint32(i)*2654435761 ^ 0x9e3779b9
	}
	return &t
}

func open(frames []byte) *meta.Reader { return meta.Open(newTable(), frames, 0, len(frames)) }

// rowOf is a row of parts, their refs, and, behind these, that of what would come next.
func rowOf(parts ...[]byte) (frames []byte, refs []int) {
	w := meta.New(newTable())
	for _, b := range parts {
		refs = append(refs, w.Add(b))
	}
	return w.Done(), append(refs, w.Add(nil))
}

// row is a reader of a row of parts.
func row(parts ...[]byte) *meta.Reader {
	frames, _ := rowOf(parts...)
	return open(frames)
}

// blocksOf is frames laid by hand, of blocks of any size.
func blocksOf(t *testing.T, blocks ...[]byte) (frames []byte) {
	t.Helper()
	for _, b := range blocks {
		f, e := frame.Put(newTable(), b)
		if e != api.OK {
			t.Fatalf("Put of %d bytes: %d", len(b), e)
		}
		frames = append(frames, f...)
	}
	return frames
}

// notOpened are readers whose from and to are no part of an image.
func notOpened(image []byte) []*meta.Reader {
	var l []*meta.Reader
	for _, x := range [][2]int{{-1, len(image)}, {0, len(image) + 1}, {1, 0}, {math.MinInt, math.MaxInt}} {
		l = append(l, meta.Open(newTable(), image, x[0], x[1]))
	}
	return l
}

// behind are all bytes of a row that can be read from ref on, one by one.
func behind(r *meta.Reader, ref int) (b []byte) {
	for {
		c, next, e := r.Read(ref, 1)
		if e != api.OK {
			return b
		}
		b, ref = append(b, c...), next
	}
}

// P11.1: IDs.

func owned(ids ...[2]int) []api.Node {
	var l []api.Node
	for _, x := range ids {
		l = append(l, api.Node{Attr: api.Attr{Uid: x[0], Gid: x[1]}})
	}
	return l
}

func TestIDs(t *testing.T) {
	for _, x := range []struct {
		what string
		l    []api.Node
		want []int
	}{
		{"nil", nil, nil},
		{"empty", []api.Node{}, nil},
		{"empty with room", owned([2]int{1, 2})[:0], nil},
		{"one", owned([2]int{1, 2}), []int{1, 2}},
		{"one, falling", owned([2]int{2, 1}), []int{1, 2}},
		{"one, the same twice", owned([2]int{7, 7}), []int{7}},
		{"one of zeros", make([]api.Node, 1), []int{0}},
		{"many of zeros", make([]api.Node, 50), []int{0}},
		{"a Uid that is another's Gid", owned([2]int{9, 3}, [2]int{3, 5}), []int{3, 5, 9}},
		{"a Gid that is another's Uid", owned([2]int{3, 5}, [2]int{9, 3}), []int{3, 5, 9}},
		{"Uids that are the same", owned([2]int{4, 1}, [2]int{4, 2}, [2]int{4, 3}), []int{1, 2, 3, 4}},
		{"Gids that are the same", owned([2]int{1, 0}, [2]int{2, 0}, [2]int{3, 0}), []int{0, 1, 2, 3}},
		{"nothing in common", owned([2]int{8, 1}, [2]int{6, 3}, [2]int{4, 5}), []int{1, 3, 4, 5, 6, 8}},
		{"rising by value, not by digits", owned([2]int{10, 9}, [2]int{100, 2}), []int{2, 9, 10, 100}},
		{"the bounds", owned([2]int{65535, 0}), []int{0, 65535}},
		{"beyond the bounds", owned([2]int{65536, -1}, [2]int{0, 65535}), []int{-1, 0, 65535, 65536}},
		{"the least and the greatest", owned([2]int{math.MaxInt, 0}, [2]int{math.MinInt, math.MaxInt}, [2]int{-1, math.MinInt + 1}), []int{math.MinInt, math.MinInt + 1, -1, 0, math.MaxInt}},
		{"the same in the lower bytes", owned([2]int{1 << 16, 1 << 32}, [2]int{0, 1 << 40}), []int{0, 1 << 16, 1 << 32, 1 << 40}},
	} {
		if ids := table.IDs(x.l); !slices.Equal(ids, x.want) {
			t.Errorf("%s: %v, wanted %v", x.what, ids, x.want)
		}
	}
}

// TestIDsOfOtherFields: a node's other numbers are no owners, whatever its kind; of nodes that are one, too.
func TestIDsOfOtherFields(t *testing.T) {
	l := []api.Node{
		{Ino: 11, Kind: api.Dir, Attr: api.Attr{Mode: 493, Uid: 3, Gid: 2}},
		{Names: []string{"a"}, Ino: 12, Kind: api.File, Attr: api.Attr{Mode: 420, Uid: 2, Gid: 4}, Data: []byte{77}},
		{Names: []string{"b"}, Ino: 12, Kind: api.File, Attr: api.Attr{Mode: 420, Uid: 2, Gid: 4}, Data: []byte{77}},
		{Names: []string{"c"}, Ino: 13, Kind: api.Link, Target: "a", Attr: api.Attr{Mode: 511, Uid: 5, Gid: 5}},
		{Names: []string{"d", "e"}, Ino: 14, Kind: api.White, Attr: api.Attr{Mode: 1, Uid: 6, Gid: 3}},
		{Names: []string{"x"}, Ino: 15, Kind: 99, Attr: api.Attr{Mode: -8, Uid: 1, Gid: 1}, Opaque: true},
	}
	if ids := table.IDs(l); !slices.Equal(ids, []int{1, 2, 3, 4, 5, 6}) {
		t.Error(ids)
	}
}

// TestIDsOfAnyOrder: three nodes in each order, with Uid and Gid in each order.
func TestIDsOfAnyOrder(t *testing.T) {
	pairs := [][2]int{{5, 1}, {1, 9}, {7, 5}}
	for _, order := range [][3]int{{0, 1, 2}, {0, 2, 1}, {1, 0, 2}, {1, 2, 0}, {2, 0, 1}, {2, 1, 0}} {
		for turns := range 8 {
			var l []api.Node
			for i, at := range order {
				x := pairs[at]
				if turns>>i&1 == 1 {
					x[0], x[1] = x[1], x[0]
				}
				l = append(l, owned(x)...)
			}
			if ids := table.IDs(l); !slices.Equal(ids, []int{1, 5, 7, 9}) {
				t.Errorf("%v, %d: %v", order, turns, ids)
			}
		}
	}
}

// slowIDs asks of each number in turn whether it is one.
func slowIDs(l []api.Node, least, most int) (ids []int) {
	for id := least; id <= most; id++ {
		if slices.ContainsFunc(l, func(n api.Node) bool { return n.Attr.Uid == id || n.Attr.Gid == id }) {
			ids = append(ids, id)
		}
	}
	return ids
}

func TestIDsOfMany(t *testing.T) {
	for seed := range uint32(40) {
		var l []api.Node
		for i, b := 0, mixed(seed, int(seed)*20); i+1 < len(b); i += 2 {
			l = append(l, owned([2]int{int(b[i]) - 100, int(b[i+1]) % (1 + int(seed))})...)
		}
		if ids, want := table.IDs(l), slowIDs(l, -100, 255); !slices.Equal(ids, want) {
			t.Errorf("%d: %v, wanted %v", seed, ids, want)
		}
	}
	var l []api.Node
	var want []int
	for i := range 1024 {
		l = append(l, owned([2]int{2*(i*389%1024) + 1, 2 * (i * 577 % 1024)})...)
		want = append(want, 2*i, 2*i+1)
	}
	if ids := table.IDs(l); !slices.Equal(ids, want) {
		t.Errorf("2048 owners: %v", ids)
	}
}

// R6, R7.

func TestIDsChangesNothing(t *testing.T) {
	room := owned([2]int{9, 3}, [2]int{3, 5}, [2]int{77, 78}, [2]int{79, 80})
	before := slices.Clone(room)
	first := table.IDs(room[:2])
	second := table.IDs(room[:2])
	if !slices.EqualFunc(room, before, func(a, b api.Node) bool { return a.Attr == b.Attr }) {
		t.Errorf("the nodes: %v", room)
	}
	clear(first[:cap(first)])
	clear(room)
	if !slices.Equal(second, []int{3, 5, 9}) {
		t.Errorf("two answers: %v", second)
	}
}
