package mount

import (
	"lamella/api"
	"lamella/crc"
	"lamella/data"
	"lamella/frag"
)

// contents are the bytes of an image's files. Whether they can be read is found out as they are asked for.
type contents struct {
	sums   *crc.Table
	image  []byte
	places []int // of the fragments
}

// read is of a file, off and n not below 0. What data.Read leaves of the bytes that are there is in the tail; that is not asked for, if nothing is left.
func (c *contents) read(f api.Inode, off, n int) ([]byte, api.Errno) {
	n = min(n, f.Size-off) // a sum of off and n could wrap round
	if n <= 0 {
		return nil, api.OK
	}
	b, e := data.Read(c.sums, c.image, f.Start, f.Size, off, n)
	if e != api.OK {
		return nil, api.ErrIO
	}
	left := n - len(b)
	if left == 0 {
		return b, api.OK
	}
	inTail := off + len(b) - blocksOf(f)*api.Block
	tail, e := frag.Read(c.sums, c.image, c.places, f.Frag, f.Off+inTail, left)
	if e != api.OK {
		return nil, api.ErrIO
	}
	return append(b, tail...), api.OK
}

// blocksOf is how many blocks a file has, beside its tail.
func blocksOf(f api.Inode) int { return f.Size / api.Block }
