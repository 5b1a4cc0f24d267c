package build_test

import (
	"fmt"
	"strings"
	"testing"

	"lamella/api"
)

// grown is a tree whose image has just so many bytes: of a file that does not pack each byte of the tail is one of the image, but for what its Size turns in how a record packs.
func grown(t *testing.T, size int, base ...api.Node) []api.Node {
	t.Helper()
	blocks, tail := 0, 1
	for range 30 {
		l := rooted(append(base, file("~", mixed(4242, 128*blocks+tail, 255)))...)
		missing := size - len(slow(l))
		if missing == 0 {
			return l
		}
		blocks, tail = blocks+missing/135, tail+missing%135
		if tail < 1 {
			blocks, tail = blocks-1, tail+128
		}
		blocks, tail = blocks+tail/128, tail%128
	}
	t.Fatalf("no tree whose image has %d bytes", size)
	return nil
}

func TestJustMaxImage(t *testing.T) {
	for what, base := range map[string][]api.Node{
		"files":      manyFiles(241, 4096),
		"attributes": attributedFiles(601),
	} {
		for _, size := range []int{1<<20 - 1, 1 << 20} {
			l := grown(t, size, base...)
			image := built(t, what, l)
			if len(image) != size {
				t.Fatalf("%s: %d bytes, wanted %d", what, len(image), size)
			}
			isImageOf(t, what, image, l)
			if s := superOf(t, what, image); s.Size != size {
				t.Errorf("%s: %+v", what, s)
			}
		}
		for _, size := range []int{1<<20 + 1, 1<<20 + 2} {
			refuses(t, fmt.Sprint(what, " of ", size), grown(t, size, base...), api.ErrBig)
		}
	}
}

// attributedFiles are so many empty files, each with some 1700 bytes of attributes that do not pack and that no other one has.
func attributedFiles(many int) []api.Node {
	l := manyFiles(many, 0)
	for i := range l {
		for k := range 8 {
			l[i].Xattrs = append(l[i].Xattrs, xattr(fmt.Sprintf("x%d", k), string(mixed(uint32(1000*i+k), 200, 255))))
		}
	}
	return l
}

// TestFarTooBig: as far as trees reach, each time by another part of the image.
func TestFarTooBig(t *testing.T) {
	most := attributedFiles(1023)
	for i := range most {
		most[i].Names[0] += strings.Repeat("n", 250)
		most[i].Data = mixed(uint32(i), 4095, 255)
	}
	for what, l := range map[string][]api.Node{
		"400 files":                rooted(manyFiles(400, 4096)...),
		"1023 files":               rooted(manyFiles(1023, 4096)...),
		"1023 files' attributes":   rooted(attributedFiles(1023)...),
		"1023 files, and the rest": rooted(most...),
	} {
		refuses(t, what, l, api.ErrBig)
	}
}

// TestWhatIsSharedDoesNotCount: an image is as big as what is laid down, not as the tree is.
func TestWhatIsSharedDoesNotCount(t *testing.T) {
	same, noughts, one := manyFiles(1023, 0), manyFiles(1023, 0), manyFiles(1023, 0)
	for i := range same {
		same[i].Data, noughts[i].Data = mixed(1, 4096, 255), make([]byte, 4096)
		one[i] = numbered(file(one[i].Names[0], mixed(1, 4095, 255)), 1)
		one[i].Xattrs, same[i].Xattrs = nXattrs(8, 200), nXattrs(8, 200)
	}
	for what, l := range map[string][]api.Node{
		"files with the same blocks": rooted(same...),
		"files of noughts":           rooted(noughts...),
		"names of one file":          rooted(one...),
	} {
		isImageOf(t, what, built(t, what, l), l)
	}
}
