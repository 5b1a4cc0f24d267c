package build_test

import (
	"fmt"
	"slices"
	"strings"

	"lamella/api"
)

// trees are ones of all kinds that images are held against; none is great.
func trees() map[string][]api.Node {
	all := map[string][]api.Node{
		"a root alone":                  rooted(),
		"a root with all there is":      {attributed(owned(moded(dir(""), 511), 65535, 7), nXattrs(8, 200)...)},
		"an empty file":                 rooted(file("a", nil)),
		"one symbolic link":             rooted(link("a", "b")),
		"a symbolic link of 200":        rooted(link("a", strings.Repeat("/b", 100))),
		"an empty directory":            rooted(dir("a")),
		"empty directories":             rooted(dir("a"), dir("b"), dir("c"), dir("c/d"), dir("c/e")),
		"names that path order differs": rooted(dir("a"), file("a-b", spelt("9a")), file("a/b", spelt("9b")), dir("a!"), file("a!/z", spelt("9c"))),
		"names of any bytes":            rooted(file("\xff\xfe", nil), file("\x01", nil), dir(" "), link(" /\x80", "\xff")),
		"a name of 255 bytes":           rooted(dir(strings.Repeat("n", 255)), link(strings.Repeat("n", 254)+"/x", "t"), dir(strings.Repeat("n", 254))),
		"same blocks":                   sameBlocks(),
		"tails":                         tails(100, 28, 1, 126, 2, 127, 127, 1, 64, 64, 64, 63, 1, 1),
		"tails and blocks":              tails(228, 156, 129, 128, 256, 0, 1151, 4095),
		"files that are one":            oneFiles(),
		"symbolic links that are one":   rooted(dir("d"), numbered(link("d/l", "t"), 1), numbered(link("a", "t"), 1), numbered(link("z", "t"), 1), link("b", "t")),
		"attributes":                    attributes(),
		"owners":                        owners(),
		"a chain of directories":        chain(),
		"many names":                    rooted(manyFiles(100, 3)...),
		"many symbolic links":           manyLinks(),
		"many owners and fragments":     manyOwnersAndFragments(),
	}
	for _, n := range []int{1, 2, 127, 128, 129, 255, 256, 257, 4095, 4096} {
		all[fmt.Sprint(n, " noughts")] = rooted(file("a", make([]byte, n)))
		all[fmt.Sprint(n, " rising")] = rooted(file("a", rising(n)))
		all[fmt.Sprint(n, " of two letters")] = rooted(file("a", mixed(7, n, 2)))
	}
	return all
}

func sameBlocks() []api.Node {
	two := slices.Concat(rising(128), spelt("128a"))
	return rooted(
		file("a", two),
		file("b", slices.Concat(two, []byte("tail"))),
		file("c", slices.Concat(two, []byte("tail"))),
		file("d", slices.Concat(two, []byte("other"))),
		file("e", rising(128)),
		file("f", spelt("128a")),
		file("g", slices.Concat(spelt("128a"), rising(128))),
		file("h", two),
		file("i", make([]byte, 256)),
		file("j", make([]byte, 300)),
		file("k", []byte("tail")),
	)
}

// tails are files of so many bytes each.
func tails(sizes ...int) []api.Node {
	var l []api.Node
	for i, n := range sizes {
		l = append(l, file(fmt.Sprintf("f%02d", i), mixed(uint32(i), n, 255)))
	}
	return rooted(l...)
}

// oneFiles has four files of several names each, met first above, below, ahead of and behind others.
func oneFiles() []api.Node {
	one := func(path string, number int) api.Node {
		return moded(numbered(file(path, mixed(uint32(number), 200+number, 255)), number), number)
	}
	return rooted(
		dir("b"), dir("b/b"), dir("y"), dir("y/a"),
		one("a", 1), one("b/a", 1), one("z", 1),
		one("b/b/c", 2), one("b/c", 2), one("c", 2),
		one("y/a/a", 3), one("y/z", 3), one("x", 3),
		one("y/a/b", 4), one("y/a/c", 4),
		file("b/a0", mixed(5, 205, 255)), file("b/b/b", mixed(6, 206, 255)), file("w", mixed(7, 207, 255)), file("y/a/bb", mixed(8, 208, 255)),
	)
}

func attributes() []api.Node {
	ab := []api.Xattr{xattr("a", "1"), xattr("b", "2")}
	return rooted(
		attributed(file("a", nil), ab...),
		attributed(dir("b"), xattr("a", "1"), xattr("b", "3")),
		attributed(link("b/a", "t"), ab...),
		attributed(file("b/b", nil), xattr("a", "2"), xattr("b", "1")),
		attributed(file("c", nil), xattr("a", "1")),
		attributed(file("d", nil), xattr("b", "2")),
		attributed(dir("e"), ab...),
		attributed(file("f", nil), nXattrs(8, 200)...),
		attributed(file("g", nil), nXattrs(8, 0)...),
		attributed(file("h", nil), nXattrs(8, 200)...),
		attributed(file("i", nil), sized(strings.Repeat("n", 40), 200)),
		attributed(numbered(file("j", nil), 1), xattr("one", "")),
		attributed(numbered(file("k", nil), 1), xattr("one", "")),
		file("l", nil),
	)
}

func owners() []api.Node {
	return rooted(
		owned(file("a", nil), 65535, 0), owned(file("b", nil), 0, 65535), owned(dir("c"), 500, 500),
		owned(link("c/d", "t"), 256, 255), owned(file("e", nil), 1, 65535), owned(file("f", nil), 500, 256),
	)
}

// chain is a file with 16 names, and all that it stands in.
func chain() []api.Node {
	var l []api.Node
	for depth := 1; depth < 16; depth++ {
		l = append(l, moded(dir(strings.Repeat("d/", depth-1)+"d"), depth))
	}
	return rooted(append(l, file(strings.Repeat("d/", 15)+"f", []byte("deep")))...)
}

// manyLinks: their records have more bytes than a frame.
func manyLinks() []api.Node {
	var l []api.Node
	for i := range 40 {
		l = append(l, moded(link(fmt.Sprintf("l%02d", i), strings.Repeat("t", 5*i+1)), i))
	}
	return rooted(l...)
}

// manyOwnersAndFragments: of both there are more than a frame has room for.
func manyOwnersAndFragments() []api.Node {
	var l []api.Node
	for i := range 70 {
		l = append(l, owned(file(fmt.Sprintf("f%02d", i), mixed(uint32(i), 65+i%60, 255)), 100+i, 300-i))
	}
	return rooted(l...)
}

// greatTrees are at the bounds of what a tree may be.
func greatTrees() map[string][]api.Node {
	ids := manyFiles(1023, 0)
	for i := range ids {
		ids[i] = owned(ids[i], 60000-i, 3000+i)
	}
	ids = rooted(ids...)
	ids[0] = owned(ids[0], 65535, 1)
	names := manyFiles(1023, 1)
	for i := range names {
		names[i].Names[0] += strings.Repeat("n", 250)
	}
	one := manyFiles(1023, 0)
	for i := range one {
		one[i] = numbered(file(one[i].Names[0], spelt("128a1b")), 1)
	}
	dirs := manyFiles(1023, 0)
	for i := range dirs {
		dirs[i].Kind = api.Dir
	}
	links := manyFiles(1023, 0)
	for i := range links {
		links[i] = attributed(link(links[i].Names[0], string(mixed(uint32(i), 200, 255))), xattr("n", fmt.Sprint(i)))
	}
	return map[string][]api.Node{
		"2048 owners":         ids,
		"1023 fragments":      rooted(manyFiles(1023, 127)...),
		"1023 long names":     rooted(names...),
		"1023 names of one":   rooted(one...),
		"1023 directories":    rooted(dirs...),
		"1023 symbolic links": rooted(links...),
		"240 files":           rooted(manyFiles(240, 4096)...),
	}
}
