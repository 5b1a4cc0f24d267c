package upper_test

import (
	"fmt"
	"math"
	"strings"
	"testing"

	"lamella/api"
	"lamella/upper"
)

// P17.4: Write, Resize, SetAttr, SetXattrs and SetOpaque.

// written is what a file has behind Write that holds, byte by byte.
func written(old string, off int, b string) string {
	if b == "" {
		return old
	}
	out := []byte(old)
	for i := range b {
		for len(out) <= off+i {
			out = append(out, 0)
		}
		out[off+i] = b[i]
	}
	return string(out)
}

// resized is what a file has behind Resize that holds.
func resized(old string, n int) string {
	if n <= len(old) {
		return old[:n]
	}
	return old + strings.Repeat("\x00", n-len(old))
}

// isFile holds all that is told of a file against its bytes, and what is used against all that is told.
func isFile(t *testing.T, what string, u *upper.Upper, ref int, data string) {
	t.Helper()
	tells(t, what, u, ref, file(data))
	if got, want := u.Used(), used(t, u); got != want {
		t.Errorf("%s: Used %+v, wanted %+v", what, got, want)
	}
}

// sizes are of files and places in them.
func sizes() []int {
	return []int{0, 1, 2, 3, 5, 6, 127, 128, 129, 4000, 4094, 4095, 4096}
}

func TestWrite(t *testing.T) {
	for _, size := range sizes() {
		for _, off := range sizes() {
			for _, many := range sizes() {
				u := upper.New(much)
				old := mixed(size)
				ref := makes(t, u, 1, "f", file(old))
				what := fmt.Sprintf("Write(%d, %d bytes) of %d", off, many, size)
				b := strings.Repeat("!", many)
				if off+many > 4096 {
					unchanged(t, what, u, api.ErrBig, func() api.Errno { return u.Write(ref, off, []byte(b)) })
					isFile(t, what, u, ref, old)
					continue
				}
				holds(t, what, u.Write(ref, off, []byte(b)))
				isFile(t, what, u, ref, written(old, off, b))
			}
		}
	}
}

// TestWriteEach: each place of a small file, with each number of bytes.
func TestWriteEach(t *testing.T) {
	for size := range 5 {
		for off := range 8 {
			for many := range 5 {
				u := upper.New(much)
				ref := makes(t, u, 1, "f", file("abcde"[:size]))
				holds(t, "Write", u.Write(ref, off, []byte("12345"[:many])))
				isFile(t, fmt.Sprintf("Write(%d, %d bytes) of %d", off, many, size), u, ref, written("abcde"[:size], off, "12345"[:many]))
			}
		}
	}
}

// TestWriteBounds: places and bytes at and beyond the greatest file.
func TestWriteBounds(t *testing.T) {
	for _, size := range []int{0, 2, 4095, 4096} {
		for _, x := range []struct {
			off, many int
			want      api.Errno
		}{
			{-1, 0, api.ErrArg}, {-1, 1, api.ErrArg}, {-1, 5000, api.ErrArg}, {-4096, 4096, api.ErrArg}, {math.MinInt, 0, api.ErrArg}, {math.MinInt, 5000, api.ErrArg},
			{0, 4097, api.ErrBig}, {0, 100000, api.ErrBig}, {1, 4096, api.ErrBig}, {4095, 2, api.ErrBig}, {4096, 1, api.ErrBig}, {4096, 4096, api.ErrBig},
			{4097, 0, api.ErrBig}, {4097, 1, api.ErrBig}, {5000, 0, api.ErrBig}, {1 << 32, 0, api.ErrBig}, {math.MaxInt, 0, api.ErrBig}, {math.MaxInt, 1, api.ErrBig}, {math.MaxInt - 1, 4096, api.ErrBig},
		} {
			u := upper.New(much)
			ref := makes(t, u, 1, "f", file(mixed(size)))
			unchanged(t, fmt.Sprintf("Write(%d, %d bytes) of %d", x.off, x.many, size), u, x.want, func() api.Errno { return u.Write(ref, x.off, make([]byte, x.many)) })
		}
	}
}

// TestWriteOfNoBytes: nothing changes, behind the end either.
func TestWriteOfNoBytes(t *testing.T) {
	for _, b := range [][]byte{nil, {}} {
		for _, off := range []int{0, 1, 4, 5, 6, 100, 4095, 4096} {
			u := world(t)
			unchanged(t, fmt.Sprintf("Write(%d) of no bytes", off), u, api.OK, func() api.Errno { return u.Write(wFile, off, b) })
		}
	}
}

func TestResize(t *testing.T) {
	for _, size := range sizes() {
		for _, n := range sizes() {
			u := upper.New(much)
			ref := makes(t, u, 1, "f", file(mixed(size)))
			what := fmt.Sprintf("Resize(%d) of %d bytes", n, size)
			holds(t, what, u.Resize(ref, n))
			isFile(t, what, u, ref, resized(mixed(size), n))
		}
		for n, want := range map[int]api.Errno{-1: api.ErrArg, -4096: api.ErrArg, math.MinInt: api.ErrArg, 4097: api.ErrBig, 5000: api.ErrBig, 1 << 32: api.ErrBig, math.MaxInt: api.ErrBig} {
			u := upper.New(much)
			ref := makes(t, u, 1, "f", file(mixed(size)))
			unchanged(t, fmt.Sprintf("Resize(%d) of %d bytes", n, size), u, want, func() api.Errno { return u.Resize(ref, n) })
		}
	}
}

// TestNoughts: what was cut off does not come back, by whatever call a file grows then.
func TestNoughts(t *testing.T) {
	for _, cut := range []int{0, 1, 3, 5} {
		for _, to := range []int{5, 6, 8, 100, 4096} {
			u := upper.New(much)
			ref := makes(t, u, 1, "f", file("abcdefgh"))
			want := "abcdefgh"[:cut]
			holds(t, "Resize", u.Resize(ref, cut))
			isFile(t, "cut", u, ref, want)
			c := u.Clone()
			holds(t, "Resize", u.Resize(ref, to))
			isFile(t, "grown by Resize", u, ref, resized(want, to))
			holds(t, "Write", c.Write(ref, to-1, []byte("!")))
			isFile(t, "grown by Write", c, ref, written(want, to-1, "!"))
		}
	}
}

// TestWriteAndResizeOfNoFile: a directory is told ahead of what is wrong with numbers.
func TestWriteAndResizeOfNoFile(t *testing.T) {
	u := world(t)
	for ref, want := range map[int]api.Errno{wRoot: api.ErrIsDir, wDir: api.ErrIsDir, wEmpty: api.ErrIsDir, wSub: api.ErrIsDir, wLink: api.ErrArg, wWhite: api.ErrArg, wMark: api.ErrArg} {
		for _, n := range []int{math.MinInt, -1, 0, 1, 3, 4096, 4097, math.MaxInt} {
			for _, many := range []int{0, 1, 4096, 4097} {
				unchanged(t, fmt.Sprintf("Write(%d, %d, %d bytes)", ref, n, many), u, want, func() api.Errno { return u.Write(ref, n, make([]byte, many)) })
			}
			unchanged(t, fmt.Sprintf("Resize(%d, %d)", ref, n), u, want, func() api.Errno { return u.Resize(ref, n) })
		}
	}
}

// TestWritesOnAndOn: a row of calls on one file.
func TestWritesOnAndOn(t *testing.T) {
	u := upper.New(much)
	ref := makes(t, u, 1, "f", file(""))
	data, chance := "", uint32(1)
	next := func(n int) int {
		chance = chance*1664525 + 1013904223
		return int(chance>>16) % n
	}
	for i := range 3000 {
		off, b := next(4097), mixed(next(100))
		if next(3) == 0 {
			off = min(off, 4096)
			holds(t, "Resize", u.Resize(ref, off))
			data = resized(data, off)
		} else if e := u.Write(ref, off, []byte(b)); e == api.OK {
			data = written(data, off, b)
		} else if e != api.ErrBig || off+len(b) <= 4096 {
			t.Fatalf("step %d: Write(%d, %d bytes): error %d", i, off, len(b), e)
		}
		isFile(t, fmt.Sprint("step ", i), u, ref, data)
	}
}

// changed holds all nodes of a world but one against what they were, and that one against a node.
func changed(t *testing.T, what string, u *upper.Upper, ref int, n api.Node) {
	t.Helper()
	old := world(t)
	for other := wRoot; other < wNext; other++ {
		if other == ref {
			tells(t, what, u, ref, n)
		} else if other != wGone {
			tells(t, fmt.Sprint(what, ", of ", other), u, other, nodeOf(t, old, other))
		}
	}
	if got := names(t, u); got != worldNames {
		t.Errorf("%s: names %q", what, got)
	}
	if got, want := u.Used(), used(t, u); got != want {
		t.Errorf("%s: Used %+v, wanted %+v", what, got, want)
	}
}

func TestSetAttr(t *testing.T) {
	for _, ref := range []int{wRoot, wDir, wFile, wLink, wEmpty, wSub} {
		for _, a := range []api.Attr{{}, {Mode: 511, Uid: 65535, Gid: 65535}, {Mode: 1}, {Uid: 1}, {Gid: 1}, {Mode: 511}, {Uid: 65535}, {Gid: 65535}} {
			u := world(t)
			n := nodeOf(t, u, ref)
			n.Attr = a
			what := fmt.Sprintf("SetAttr(%d, %+v)", ref, a)
			holds(t, what, u.SetAttr(ref, a))
			changed(t, what, u, ref, n)
		}
	}
}

func TestSetAttrRefused(t *testing.T) {
	u := world(t)
	for _, ref := range []int{wRoot, wDir, wFile, wLink, wWhite, wEmpty} {
		for _, a := range []api.Attr{{Mode: -1}, {Mode: 512}, {Uid: -1}, {Uid: 65536}, {Gid: -1}, {Gid: 65536}, {Mode: math.MinInt}, {Mode: math.MaxInt}, {Uid: 1 << 32}, {Mode: 7, Uid: 7, Gid: 1 << 16}} {
			unchanged(t, fmt.Sprintf("SetAttr(%d, %+v)", ref, a), u, api.ErrArg, func() api.Errno { return u.SetAttr(ref, a) })
		}
	}
	for _, ref := range []int{wWhite, wMark} {
		for _, a := range []api.Attr{{}, {Mode: 420}} {
			unchanged(t, fmt.Sprintf("SetAttr of a White, %+v", a), u, api.ErrArg, func() api.Errno { return u.SetAttr(ref, a) })
		}
	}
}

func TestSetXattrs(t *testing.T) {
	for what, x := range good() {
		for _, ref := range []int{wRoot, wDir, wFile, wLink, wEmpty, wSub} {
			u := world(t)
			n := nodeOf(t, u, ref)
			n.Xattrs = x.Xattrs
			holds(t, what, u.SetXattrs(ref, x.Xattrs))
			changed(t, what, u, ref, n)
			holds(t, what, u.SetXattrs(ref, nil))
			n.Xattrs = nil
			changed(t, what, u, ref, n)
		}
	}
}

func TestSetXattrsRefused(t *testing.T) {
	u := world(t)
	for what, x := range bad() {
		if !strings.HasPrefix(what, "a file with") || len(x.Xattrs) == 0 {
			continue
		}
		for _, ref := range []int{wRoot, wDir, wFile, wLink, wWhite} {
			unchanged(t, what, u, api.ErrArg, func() api.Errno { return u.SetXattrs(ref, x.Xattrs) })
		}
	}
	for _, ref := range []int{wWhite, wMark} {
		for _, l := range [][]api.Xattr{nil, {}, {xattr("a", "b")}} {
			unchanged(t, "SetXattrs of a White", u, api.ErrArg, func() api.Errno { return u.SetXattrs(ref, l) })
		}
	}
}

func TestSetOpaque(t *testing.T) {
	for _, ref := range []int{wRoot, wDir, wEmpty, wMarks, wSub} {
		u := world(t)
		n := nodeOf(t, u, ref)
		for _, on := range []bool{true, true, false, false, true} {
			n.Opaque = on
			what := fmt.Sprintf("SetOpaque(%d, %v)", ref, on)
			holds(t, what, u.SetOpaque(ref, on))
			changed(t, what, u, ref, n)
		}
	}
	u := world(t)
	for _, ref := range []int{wFile, wLink, wWhite, wMark, wDeep} {
		for _, on := range []bool{true, false} {
			unchanged(t, fmt.Sprintf("SetOpaque(%d, %v)", ref, on), u, api.ErrNotDir, func() api.Errno { return u.SetOpaque(ref, on) })
		}
	}
}
