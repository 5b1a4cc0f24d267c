package super

import (
	"lamella/api"
	"lamella/crc"
	"lamella/cursor"
)

const (
	letters = "LMLA"
	sumSize = 4
)

// block is a superblock as it stands in an image.
type block [api.SuperSize]byte

// numbers are a superblock's, in the order in which they stand in a block; widths tells of how many bytes each is.
type numbers [10]int

var widths = [10]int{4, 4, 4, 4, 4, 4, 4, 2, 2, 2}

func numbersOf(s api.Super) numbers {
	return numbers{s.Size, s.InodeAt, s.DirAt, s.FragAt, s.IDAt, s.XattrAt, s.Root, s.Inodes, s.IDs, s.Frags}
}

func (n numbers) super() api.Super {
	return api.Super{
		Size: n[0], InodeAt: n[1], DirAt: n[2], FragAt: n[3], IDAt: n[4], XattrAt: n[5], Root: n[6],
		Inodes: n[7], IDs: n[8], Frags: n[9],
	}
}

// blockOf is of a superblock that may be: its numbers fit their widths.
func blockOf(t *crc.Table, s api.Super) block {
	var w cursor.Writer
	w.Bytes([]byte(letters))
	for i, x := range numbersOf(s) {
		w.Num(x, widths[i])
	}
	w.Num(int(t.Sum(w.Done())), sumSize)
	var b block
	copy(b[:], w.Done())
	return b
}

// super is what a block's numbers say, whether they may be or not.
func (b block) super() api.Super {
	r := cursor.Read(b[len(letters):])
	var n numbers
	for i, width := range widths {
		n[i] = r.Num(width)
	}
	return n.super()
}
