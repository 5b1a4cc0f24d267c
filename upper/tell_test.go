package upper_test

import (
	"fmt"
	"math"
	"slices"
	"strings"
	"testing"

	"lamella/api"
	"lamella/image"
	"lamella/upper"
)

// P17.2: what is told of a node.

func TestExample(t *testing.T) {
	u := upper.New(much)
	ref, e := u.Make(1, "a", file("hi"))
	if ref != 2 || e != api.OK {
		t.Errorf("Make: ref %d, error %d", ref, e)
	}
	if e := u.Link(1, "b", 2); e != api.OK {
		t.Errorf("Link: error %d", e)
	}
	if e := u.Remove(1, "a"); e != api.OK {
		t.Errorf("Remove: error %d", e)
	}
	if s, e := u.Stat(2); s != (api.Stat{Kind: api.File, Links: 1, Size: 2}) || e != api.OK {
		t.Errorf("Stat: %+v, error %d", s, e)
	}
}

func TestStat(t *testing.T) {
	u := world(t)
	for ref, want := range map[int]api.Stat{
		wRoot:  {Kind: api.Dir, Attr: api.Attr{Mode: 493}, Links: 1, Size: 6},
		wDir:   {Kind: api.Dir, Attr: api.Attr{Mode: 448, Uid: 5, Gid: 7}, Links: 1, Size: 3},
		wFile:  {Kind: api.File, Attr: api.Attr{Mode: 420, Uid: 1, Gid: 2}, Links: 2, Size: 5},
		wLink:  {Kind: api.Link, Attr: api.Attr{Mode: 511, Uid: 3, Gid: 4}, Links: 1, Size: 3},
		wWhite: {Kind: api.White, Links: 3},
		wEmpty: {Kind: api.Dir, Links: 1},
		wMarks: {Kind: api.Dir, Links: 1, Size: 3},
		wMark:  {Kind: api.White, Links: 2},
		wSub:   {Kind: api.Dir, Attr: api.Attr{Mode: 1}, Links: 1, Size: 1},
		wDeep:  {Kind: api.File, Links: 1, Size: 4},
	} {
		if s, e := u.Stat(ref); s != want || e != api.OK {
			t.Errorf("ref %d: Stat %+v, error %d; wanted %+v", ref, s, e, want)
		}
	}
}

// TestLinks: names in one directory and in several, put and taken off.
func TestLinks(t *testing.T) {
	for kind, n := range map[string]api.Node{"file": file("x"), "symbolic link": link("x"), "White": white()} {
		u := upper.New(much)
		d := makes(t, u, 1, "d", dir())
		ref := makes(t, u, 1, "0", n)
		for i := 1; i < 50; i++ {
			holds(t, kind, u.Link([]int{1, d}[i%2], fmt.Sprint(i), ref))
			if s, e := u.Stat(ref); s.Links != i+1 || e != api.OK {
				t.Errorf("%s: Links %d, error %d, of %d names", kind, s.Links, e, i+1)
			}
		}
		for i := range 49 {
			holds(t, kind, u.Remove([]int{1, d}[i%2], fmt.Sprint(i)))
			if s, e := u.Stat(ref); s.Links != 49-i || e != api.OK {
				t.Errorf("%s: Links %d, error %d, of %d names", kind, s.Links, e, 49-i)
			}
			tells(t, kind, u, ref, n)
		}
		if got := names(t, u); got != "d=2 d/49=3" {
			t.Errorf("%s: names %q", kind, got)
		}
		holds(t, kind, u.Remove(d, "49"))
		isNoRef(t, kind, u, ref)
	}
}

func TestLook(t *testing.T) {
	u := world(t)
	for s, want := range map[string]api.Entry{
		"d": {Name: "d", Kind: api.Dir, Ref: wDir}, "g": {Name: "g", Kind: api.File, Ref: wFile}, "l": {Name: "l", Kind: api.Link, Ref: wLink}, "w": {Name: "w", Kind: api.White, Ref: wWhite},
	} {
		if x, e := u.Look(wRoot, s); x != want || e != api.OK {
			t.Errorf("Look of %s: %+v, error %d", s, x, e)
		}
	}
	none := append(oddNames(), "", ".", "..", "/", "a/b", "\x00", "d\x00", "D", "dd", "gone", "f", "d/f", "d/", strings.Repeat("d", 256))
	for _, ref := range []int{wRoot, wDir, wEmpty, wMarks, wFile, wLink, wWhite} {
		want := api.ErrNone
		if ref == wFile || ref == wLink || ref == wWhite {
			want = api.ErrNotDir
		}
		for _, s := range none {
			if s == "f" && ref == wDir {
				continue
			}
			if x, e := u.Look(ref, s); x != (api.Entry{}) || e != want {
				t.Errorf("ref %d: Look of %.10q: %+v, error %d; wanted %d", ref, s, x, e, want)
			}
		}
	}
	if x, e := u.Look(wEmpty, "d"); x != (api.Entry{}) || e != api.ErrNone {
		t.Errorf("Look in an empty directory: %+v, error %d", x, e)
	}
}

func TestList(t *testing.T) {
	u := world(t)
	for ref, want := range map[int][]api.Entry{
		wRoot:  {{Name: "d", Kind: api.Dir, Ref: wDir}, {Name: "e", Kind: api.Dir, Ref: wEmpty}, {Name: "g", Kind: api.File, Ref: wFile}, {Name: "l", Kind: api.Link, Ref: wLink}, {Name: "m", Kind: api.Dir, Ref: wMarks}, {Name: "w", Kind: api.White, Ref: wWhite}},
		wDir:   {{Name: "f", Kind: api.File, Ref: wFile}, {Name: "s", Kind: api.Dir, Ref: wSub}, {Name: "v", Kind: api.White, Ref: wWhite}},
		wMarks: {{Name: "x", Kind: api.White, Ref: wMark}, {Name: "y", Kind: api.White, Ref: wWhite}, {Name: "z", Kind: api.White, Ref: wMark}},
		wSub:   {{Name: "t", Kind: api.File, Ref: wDeep}},
		wEmpty: nil,
	} {
		if l, e := u.List(ref); !slices.Equal(l, want) || e != api.OK {
			t.Errorf("ref %d: List %+v, error %d; wanted %+v", ref, l, e, want)
		}
	}
	for _, ref := range []int{wFile, wLink, wWhite, wMark, wDeep} {
		if l, e := u.List(ref); len(l) != 0 || e != api.ErrNotDir {
			t.Errorf("ref %d: List %+v, error %d", ref, l, e)
		}
	}
}

// TestListRises: byte by byte, in whatever order names came.
func TestListRises(t *testing.T) {
	all := append(oddNames(), "a", "aa", "ab", "b", "A", "\x7f", "\x80", "é", "z", "zz", "10", "9", "a\x01", "a\xff")
	want := slices.Sorted(slices.Values(all))
	for turn := range len(all) {
		slices.Reverse(all[:turn]) // another order each time
		u := upper.New(much)
		for i, s := range all {
			makes(t, u, 1, s, []api.Node{dir(), file(""), white()}[i%3])
		}
		l, e := u.List(1)
		var got []string
		for _, x := range l {
			got = append(got, x.Name)
		}
		if !slices.Equal(got, want) || e != api.OK {
			t.Fatalf("List %q, error %d; wanted %q", got, e, want)
		}
		names(t, u)
	}
}

// TestRead: each side of a file's end, and numbers of which the sum is no int.
func TestRead(t *testing.T) {
	for _, size := range []int{0, 1, 2, 5, 127, 128, 129, 4095, 4096} {
		data := mixed(size)
		u := upper.New(much)
		ref := makes(t, u, 1, "f", file(data))
		numbers := []int{math.MinInt, math.MinInt + 1, -4096, -1, 0, 1, 2, size - 2, size - 1, size, size + 1, size * 2, 4095, 4096, 4097, math.MaxInt - 1, math.MaxInt}
		for _, off := range numbers {
			for _, n := range numbers {
				want, wantErr := "", api.OK
				if off < 0 || n < 0 {
					wantErr = api.ErrArg
				} else if off < size {
					want = data[off:][:min(n, size-off)]
				}
				if b, e := u.Read(ref, off, n); string(b) != want || e != wantErr {
					t.Errorf("%d bytes: Read(%d, %d): %d bytes, error %d; wanted %d, error %d", size, off, n, len(b), e, len(want), wantErr)
				}
			}
		}
	}
}

// TestReadEachPart: all parts of a small file.
func TestReadEachPart(t *testing.T) {
	u := upper.New(much)
	ref := makes(t, u, 1, "f", file("abcdef"))
	for off := range 9 {
		for n := range 9 {
			want := "abcdef"[min(off, 6):min(off+n, 6)]
			if b, e := u.Read(ref, off, n); string(b) != want || e != api.OK {
				t.Errorf("Read(%d, %d): %q, error %d", off, n, b, e)
			}
		}
	}
}

func TestReadOfNoFile(t *testing.T) {
	u := world(t)
	for ref, want := range map[int]api.Errno{wRoot: api.ErrIsDir, wDir: api.ErrIsDir, wEmpty: api.ErrIsDir, wLink: api.ErrArg, wWhite: api.ErrArg, wMark: api.ErrArg} {
		for _, off := range []int{math.MinInt, -1, 0, 1, math.MaxInt} {
			for _, n := range []int{math.MinInt, -1, 0, 1, math.MaxInt} {
				if b, e := u.Read(ref, off, n); len(b) != 0 || e != want {
					t.Errorf("ref %d: Read(%d, %d): %q, error %d; wanted %d", ref, off, n, b, e, want)
				}
			}
		}
	}
}

func TestTarget(t *testing.T) {
	u := world(t)
	for ref := wRoot; ref < wNext; ref++ {
		s, e := u.Target(ref)
		if ref == wLink && (s != "d/f" || e != api.OK) || ref != wLink && (s != "" || e != api.ErrArg) {
			t.Errorf("ref %d: Target %q, error %d", ref, s, e)
		}
	}
}

func TestXattrs(t *testing.T) {
	u := world(t)
	for ref := wRoot; ref < wNext; ref++ {
		var want []api.Xattr
		wantErr := api.OK
		switch ref {
		case wDir:
			want = []api.Xattr{xattr("of", "d")}
		case wFile:
			want = []api.Xattr{xattr("a", "xyz"), xattr("b", "")}
		case wGone:
			wantErr = api.ErrArg
		}
		if x, e := u.Xattrs(ref); !slices.EqualFunc(x, want, sameXattr) || e != wantErr {
			t.Errorf("ref %d: Xattrs %q, error %d; wanted %q, error %d", ref, x, e, want, wantErr)
		}
	}
}

func TestOpaque(t *testing.T) {
	u := world(t)
	for ref := -5; ref < wNext+5; ref++ {
		if got := u.Opaque(ref); got != (ref == wSub) {
			t.Errorf("ref %d: Opaque %v", ref, got)
		}
	}
	for _, ref := range []int{wRoot, wDir, wEmpty, wMarks, wSub} {
		for _, on := range []bool{true, true, false, false, true} {
			holds(t, "SetOpaque", u.SetOpaque(ref, on))
			if u.Opaque(ref) != on {
				t.Errorf("ref %d: Opaque %v behind SetOpaque(%v)", ref, !on, on)
			}
		}
	}
}

// filled is an upper branch with a tree that has no Whites.
func filled(t *testing.T, l []api.Node) *upper.Upper {
	t.Helper()
	u := upper.New(much)
	refs, inos := map[string]int{"": 1}, map[int]int{}
	for _, n := range l {
		if len(n.Names) == 0 {
			holds(t, "SetAttr", u.SetAttr(1, n.Attr))
			holds(t, "SetXattrs", u.SetXattrs(1, n.Xattrs))
			continue
		}
		at := len(n.Names) - 1
		parent, s := refs[strings.Join(n.Names[:at], "/")], n.Names[at]
		if ref, found := inos[n.Ino]; found {
			holds(t, "Link", u.Link(parent, s, ref))
			continue
		}
		inos[n.Ino] = makes(t, u, parent, s, n)
		refs[strings.Join(n.Names, "/")] = inos[n.Ino]
	}
	return u
}

// TestAsAnImage: of one tree an upper branch tells what an image tells, but for the refs.
func TestAsAnImage(t *testing.T) {
	one := func(path string, ino int, n api.Node) api.Node {
		n.Ino = ino
		if path != "" {
			n.Names = strings.Split(path, "/")
		}
		return n
	}
	l := []api.Node{
		one("", 1, attributed(owned(dir(), 448, 1, 65535), xattr("root", "of"))),
		one("a", 2, owned(file(mixed(4096)), 511, 65535, 0)),
		one("b", 3, owned(dir(), 0, 3, 4)),
		one("b/a", 2, owned(file(mixed(4096)), 511, 65535, 0)),
		one("b/b", 4, attributed(dir(), xattr("x", ""), xattr("y", strings.Repeat("v", 200)))),
		one("b/b/c", 5, owned(link(strings.Repeat("t", 200)), 511, 0, 0)),
		one("b/c", 6, file("")),
		one("c", 5, owned(link(strings.Repeat("t", 200)), 511, 0, 0)),
		one("d", 7, dir()),
		one("e", 8, file(mixed(300))),
	}
	u := filled(t, l)
	m, e := image.Open(l)
	holds(t, "Open", e)
	got, e := image.Tree(u)
	want, f := image.Tree(m)
	if a, b := fmt.Sprintf("%+v", got), fmt.Sprintf("%+v", want); a != b || e != api.OK || f != api.OK {
		t.Errorf("errors %d, %d; told is\n%s\nan image tells\n%s", e, f, a, b)
	}
	for _, n := range l {
		asAnImage(t, u, m, n.Names)
	}
}

// asAnImage holds all calls of two branches against each other, at some names.
func asAnImage(t *testing.T, u, m image.Branch, names []string) {
	t.Helper()
	a, e := image.Find(u, names)
	b, f := image.Find(m, names)
	holds(t, "Find", max(e, f))
	told := func(x image.Branch, ref int) string {
		s, e := x.Stat(ref)
		found, f := x.Look(ref, "a")
		l, g := x.List(ref)
		target, h := x.Target(ref)
		attributes, i := x.Xattrs(ref)
		found.Ref = 0
		for i := range l {
			l[i].Ref = 0
		}
		out := fmt.Sprintf("%+v %+v %v %q %q %v", s, found, l, target, attributes, []api.Errno{e, f, g, h, i})
		for _, off := range []int{-1, 0, 1, 128, 299, 300, 4095, 4096, math.MaxInt} {
			for _, n := range []int{-1, 0, 1, 100, 4096, math.MaxInt} {
				b, e := x.Read(ref, off, n)
				out += fmt.Sprintf(" %q %d", b, e)
			}
		}
		return out
	}
	if x, y := told(u, a), told(m, b); x != y {
		t.Errorf("%q: told is\n%s\nan image tells\n%s", names, x, y)
	}
}

// mixed are so many bytes, of which not two neighbours are the same.
func mixed(n int) string {
	b := make([]byte, n)
	for i := range b {
		b[i] = byte(i*7 + i/250)
	}
	return string(b)
}
