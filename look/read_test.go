package look_test

import (
	"bytes"
	"math"
	"strings"
	"testing"

	"lamella/api"
	"lamella/look"
)

// P20.2: Read, Target, Xattrs.

func readIs(t *testing.T, s *look.Stack, path string, off, n int, want string, wantE api.Errno) {
	t.Helper()
	if b, e := s.Read(named(path), off, n); string(b) != want || e != wantE {
		t.Errorf("Read of %q, %d, %d: %q, error %d; wanted %q, error %d\n%s", path, off, n, b, e, want, wantE, shows(s))
	}
}

func targetIs(t *testing.T, s *look.Stack, path, want string, wantE api.Errno) {
	t.Helper()
	if got, e := s.Target(named(path)); got != want || e != wantE {
		t.Errorf("Target of %q: %q, error %d; wanted %q, error %d\n%s", path, got, e, want, wantE, shows(s))
	}
}

func xattrsAre(t *testing.T, s *look.Stack, path string, want []api.Xattr, wantE api.Errno) {
	t.Helper()
	if got, e := s.Xattrs(named(path)); !sameXattrs(got, want) || e != wantE {
		t.Errorf("Xattrs of %q: %q, error %d; wanted %q, error %d\n%s", path, got, e, want, wantE, shows(s))
	}
}

// TestRead: of a file of the upper branch above others, and of ones of each image; each has "PATH of LAYER".
func TestRead(t *testing.T) {
	s := stacked(t, "f d/ d/x", "f g d/ d/x d/y", "g h d/ d/y d/z")
	for path, layer := range map[string]string{"f": "0", "d/x": "0", "g": "1", "d/y": "1", "h": "2", "d/z": "2"} {
		want := path + " of " + layer
		size := len(want)
		readIs(t, s, path, 0, size, want, api.OK)
		readIs(t, s, path, 0, size+1, want, api.OK)
		readIs(t, s, path, 0, math.MaxInt, want, api.OK)
		readIs(t, s, path, 2, 3, want[2:5], api.OK)
		readIs(t, s, path, size-1, 100, want[size-1:], api.OK)
		readIs(t, s, path, size-1, 0, "", api.OK)
		readIs(t, s, path, size, 100, "", api.OK)
		readIs(t, s, path, size+1, 100, "", api.OK)
		readIs(t, s, path, math.MaxInt, math.MaxInt, "", api.OK)
		readIs(t, s, path, -1, 100, "", api.ErrArg)
		readIs(t, s, path, 0, -1, "", api.ErrArg)
		readIs(t, s, path, math.MinInt, math.MinInt, "", api.ErrArg)
		readIs(t, s, path, math.MaxInt, -1, "", api.ErrArg)
	}
}

// TestReadOfLongFiles: over blocks and a tail, in an image and above it.
func TestReadOfLongFiles(t *testing.T) {
	data := make([]byte, 4096)
	for i := range data {
		data[i] = byte(i*i + i>>7)
	}
	file := func(path string, size int) api.Node {
		return api.Node{Names: named(path), Ino: 2 + size, Kind: api.File, Data: data[:size]}
	}
	root := api.Node{Ino: 1, Kind: api.Dir}
	s := stackOf(t, []api.Node{root, file("a", 4096)}, []api.Node{root, file("a", 7), file("b", 4096), file("c", 300)})
	for path, size := range map[string]int{"a": 4096, "b": 4096, "c": 300} {
		for _, off := range []int{0, 1, 127, 128, 129, 255, 256, 299, 300, 4095, 4096, 4097} {
			for _, n := range []int{0, 1, 127, 128, 129, 300, 4096, 5000} {
				from := min(off, size)
				readIs(t, s, path, off, n, string(data[from:min(from+n, size)]), api.OK)
			}
		}
	}
}

// TestReadOfOthers: the error of the first spot's branch, whatever is behind.
func TestReadOfOthers(t *testing.T) {
	s := stacked(t, "d/ l@ w- e-", "d l f/ m@ w e/", "f m n/ o@ e")
	for _, path := range []string{"", "d", "f", "n"} {
		readIs(t, s, path, 0, 1, "", api.ErrIsDir)
		readIs(t, s, path, -1, -1, "", api.ErrIsDir)
	}
	for _, path := range []string{"l", "m", "o"} {
		readIs(t, s, path, 0, 1, "", api.ErrArg)
	}
	for _, path := range []string{"w", "e", "x", "w/x", "x/y"} {
		readIs(t, s, path, 0, 1, "", api.ErrNone)
		readIs(t, s, path, -1, 1, "", api.ErrNone)
	}
	readIs(t, s, "l/x", 0, 1, "", api.ErrNotDir)
	readIs(t, s, "o/x/y", -1, 1, "", api.ErrNotDir)
}

func TestTarget(t *testing.T) {
	long := strings.Repeat("t", 200)
	root := api.Node{Ino: 1, Kind: api.Dir}
	s := stackOf(t,
		append(lay(0, "a@ d/ f w-"), api.Node{Names: []string{"z"}, Ino: 99, Kind: api.Link, Target: long}),
		lay(1, "a@ b@ d@ f@ w@ e/ e/l@ g"),
		[]api.Node{root, {Names: []string{"b"}, Ino: 2, Kind: api.Link, Target: "x"}, {Names: []string{"y"}, Ino: 3, Kind: api.Link, Target: long + ""}})
	targetIs(t, s, "a", "a of 0", api.OK)
	targetIs(t, s, "b", "b of 1", api.OK)
	targetIs(t, s, "e/l", "e/l of 1", api.OK)
	targetIs(t, s, "y", long, api.OK)
	targetIs(t, s, "z", long, api.OK)
	for _, path := range []string{"", "d", "f", "e", "g"} { // of the upper branch and of the image
		targetIs(t, s, path, "", api.ErrArg)
	}
	for _, path := range []string{"w", "x", "e/x", "x/y", "w/x"} {
		targetIs(t, s, path, "", api.ErrNone)
	}
	for _, path := range []string{"a/x", "b/x/y", "f/x", "g/x"} {
		targetIs(t, s, path, "", api.ErrNotDir)
	}
}

// TestXattrs: those of the first spot alone, also where it has none above one that has some.
func TestXattrs(t *testing.T) {
	x := []api.Xattr{{Name: "a", Value: []byte("1")}, {Name: "b"}, {Name: strings.Repeat("n", 40), Value: bytes.Repeat([]byte{0, 255}, 100)}}
	other := []api.Xattr{{Name: "a", Value: []byte("2")}, {Name: "c", Value: []byte("3")}}
	none := []api.Xattr(nil)
	with := func(layer int, words string, l ...[]api.Xattr) []api.Node {
		tree := lay(layer, words)
		for i := range l {
			tree[i].Xattrs = l[i]
		}
		return tree
	}
	s := stackOf(t,
		with(0, "d/ f l@ g w-", x, x, other, x, none),
		with(1, "d/ f l@ g h e/ w", other, other, x, other, x, x, other, x),
		with(2, "d/ d/x h e/ e/x i@", x, x, other, other, other, none, x))
	for path, want := range map[string][]api.Xattr{"": x, "d": x, "f": other, "l": x, "g": none, "h": x, "e": other, "d/x": other, "e/x": none, "i": x} {
		xattrsAre(t, s, path, want, api.OK)
	}
	xattrsAre(t, s, "w", none, api.ErrNone)
	xattrsAre(t, s, "w/x", none, api.ErrNone)
	xattrsAre(t, s, "d/y", none, api.ErrNone)
	xattrsAre(t, s, "f/y", none, api.ErrNotDir)
	xattrsAre(t, s, "i/y/z", none, api.ErrNotDir)
}
