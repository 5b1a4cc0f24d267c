package build_test

import (
	"fmt"
	"strings"
	"testing"

	"lamella/api"
	"lamella/build"
)

// P14.2.

func TestMost(t *testing.T) {
	long := strings.Repeat("n", 1000)
	for _, x := range []struct {
		what string
		l    []api.Node
		want int
	}{
		{"nil", nil, 600},
		{"none", []api.Node{}, 600},
		{"a node", []api.Node{{}}, 1200},
		{"three nodes", make([]api.Node, 3), 2400},
		{"1025 nodes", make([]api.Node, 1025), 600 + 1025*600},
		{"a name", []api.Node{{Names: []string{"ab"}}}, 1202},
		{"names", []api.Node{{Names: []string{"ab", "", "c", long}}, {Names: []string{"..", "/"}}}, 1800 + 1003 + 3},
		{"17 names", []api.Node{{Names: strings.Split(strings.Repeat("dd/", 16)+"dd", "/")}}, 1200 + 34},
		{"Data", []api.Node{{Kind: api.File, Data: make([]byte, 4096)}}, 1200 + 4096},
		{"too much Data", []api.Node{{Kind: api.Dir, Data: make([]byte, 5000)}}, 1200 + 5000},
		{"a byte of Data", []api.Node{{Data: make([]byte, 1, 100)}}, 1201},
		{"a Target", []api.Node{{Kind: api.Link, Target: "t"}}, 1201},
		{"a long Target", []api.Node{{Kind: api.White, Target: long}}, 2200},
		{"an Xattr", []api.Node{{Xattrs: make([]api.Xattr, 1, 5)}}, 1700},
		{"eight Xattrs", []api.Node{{Xattrs: nXattrs(8, 200)}}, 1200 + 4000},
		{"Xattrs of any size", []api.Node{{Xattrs: []api.Xattr{sized(long, 999), sized("", 0), {}}}}, 1200 + 1500},
		{"nine Xattrs", []api.Node{{Xattrs: nXattrs(9, 1)}}, 1200 + 4500},
		{"letters of several bytes", []api.Node{{Names: []string{"\u00e9"}, Target: "\u20ac", Data: []byte("\u00e9")}}, 1207},
		{"Attr, Ino, Kind, Opaque", []api.Node{{Ino: 1 << 40, Kind: -9, Attr: api.Attr{Mode: 1 << 40, Uid: -1, Gid: 1 << 40}, Opaque: true}}, 1200},
		{"all of it", []api.Node{{Names: []string{"ab", "c"}, Data: make([]byte, 9), Target: "xy", Xattrs: make([]api.Xattr, 2)}}, 1200 + 3 + 9 + 2 + 1000},
		{"the same node twice", []api.Node{file("a", make([]byte, 5)), file("a", make([]byte, 5))}, 600 + 2*606},
		{"names of one", rooted(numbered(file("a", make([]byte, 9)), 1), numbered(file("b", make([]byte, 9)), 1)), 600 + 3*600 + 20},
	} {
		if n := build.Most(x.l); n != x.want {
			t.Errorf("%s: %d, wanted %d", x.what, n, x.want)
		}
	}
}

// TestMostOfEachSize: each byte counts one.
func TestMostOfEachSize(t *testing.T) {
	for n := range 300 {
		s := strings.Repeat("s", n)
		for what, x := range map[string]api.Node{
			"name":      {Names: []string{s}},
			"last name": {Names: []string{"", "", s}},
			"Data":      {Data: []byte(s)},
			"Target":    {Target: s},
		} {
			if got := build.Most([]api.Node{{}, x}); got != 1800+n {
				t.Errorf("%s of %d bytes: %d", what, n, got)
			}
		}
		if got := build.Most([]api.Node{{Xattrs: make([]api.Xattr, n)}}); got != 1200+500*n {
			t.Errorf("%d Xattrs: %d", n, got)
		}
	}
}

// TestAtMostMostOfTheWorst: of what packs worst, at each number of files and of attributes.
func TestAtMostMostOfTheWorst(t *testing.T) {
	for n := range 40 {
		files := manyFiles(n, 4095)
		for i := range files {
			files[i].Attr = api.Attr{Mode: 511, Uid: 31*i + 5000, Gid: 65535 - 17*i}
			for k := range 8 {
				value := string(mixed(uint32(100*i+k), 200, 255))
				files[i].Xattrs = append(files[i].Xattrs, xattr(fmt.Sprintf("%d%s", k, mixed(uint32(i), 39, 255)), value))
			}
		}
		l := rooted(files...)
		if got, most := len(built(t, "the worst", l)), build.Most(l); got > most {
			t.Errorf("%d files: %d bytes, of at most %d", n, got, most)
		}
	}
}
