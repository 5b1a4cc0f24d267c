package inode

import (
	"strings"

	"lamella/api"
	"lamella/cursor"
)

// headSize is how many bytes tell how long a record is: of a symbolic link, the shortest one, those ahead of its target's letters. dirSize and fileSize are of how many bytes such records are.
const (
	headSize = 14
	dirSize  = 21
	fileSize = 22
)

// kind is what the records of one kind have of their own, beside what all have: whether that may be, how it is written and read behind the rest, and of how many bytes such a record is, by its head.
type kind struct {
	may  func(i api.Inode) bool
	put  func(w *cursor.Writer, i api.Inode)
	take func(r *cursor.Reader, i api.Inode) api.Inode
	size func(head []byte) int
}

func kindOf(number int) (k kind, ok bool) {
	switch number {
	case api.Dir:
		return kind{mayDir, putDir, takeDir, sizeOfDir}, true
	case api.File:
		return kind{mayFile, putFile, takeFile, sizeOfFile}, true
	case api.Link:
		return kind{mayLink, putLink, takeLink, sizeOfLink}, true
	}
	return kind{}, false
}

func mayDir(i api.Inode) bool {
	return i.Links == 1 && within(i.Start, 0, maxRef) && within(i.Size, 0, api.MaxImage) &&
		i.Frag == 0 && i.Off == 0 && i.Target == ""
}

func putDir(w *cursor.Writer, i api.Inode) {
	w.Num(i.Start, 4)
	w.Num(i.Size, 4)
}

func takeDir(r *cursor.Reader, i api.Inode) api.Inode {
	i.Start = r.Num(4)
	i.Size = r.Num(4)
	return i
}

func sizeOfDir([]byte) int { return dirSize }

func mayFile(i api.Inode) bool {
	return within(i.Start, 0, maxRef) && within(i.Size, 0, api.MaxFile) &&
		within(i.Frag, 0, api.MaxNodes) && hasTail(i) == (i.Frag != 0) &&
		within(i.Off, 0, api.Block-1) && (i.Off == 0 || i.Frag != 0) && i.Target == ""
}

func hasTail(i api.Inode) bool { return i.Size%api.Block != 0 }

func putFile(w *cursor.Writer, i api.Inode) {
	w.Num(i.Start, 4)
	w.Num(i.Size, 2)
	w.Num(i.Frag, 2)
	w.Num(i.Off, 1)
}

func takeFile(r *cursor.Reader, i api.Inode) api.Inode {
	i.Start = r.Num(4)
	i.Size = r.Num(2)
	i.Frag = r.Num(2)
	i.Off = r.Num(1)
	return i
}

func sizeOfFile([]byte) int { return fileSize }

func mayLink(i api.Inode) bool {
	return within(len(i.Target), 1, api.MaxTarget) && strings.IndexByte(i.Target, 0) < 0 &&
		i.Start == 0 && i.Size == 0 && i.Frag == 0 && i.Off == 0
}

func putLink(w *cursor.Writer, i api.Inode) { w.Text(i.Target) }

func takeLink(r *cursor.Reader, i api.Inode) api.Inode {
	i.Target = r.Text()
	return i
}

func sizeOfLink(head []byte) int { return headSize + int(head[headSize-1]) }
