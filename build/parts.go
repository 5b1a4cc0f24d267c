package build

import (
	"lamella/api"
	"lamella/crc"
	"lamella/super"
)

// parts are what an image has behind its superblock, in that order.
type parts struct {
	blocks, inodes, lists, places, owners, xattrs []byte
}

func (p parts) size() int {
	return len(p.blocks) + len(p.inodes) + len(p.lists) + len(p.places) + len(p.owners) + len(p.xattrs)
}

// join is the image of the parts; s is handed in without what tells where they are. It drops super.Put's error: of an image that is not too big the superblock may be.
func join(t *crc.Table, s api.Super, p parts) ([]byte, api.Errno) {
	s.Size = api.SuperSize + p.size()
	if s.Size > api.MaxImage {
		return nil, api.ErrBig
	}
	image := make([]byte, s.Size)
	behind := api.SuperSize
	lay := func(part []byte) (at int) {
		at = behind
		behind += copy(image[at:], part)
		return at
	}
	lay(p.blocks)
	s.InodeAt = lay(p.inodes)
	s.DirAt = lay(p.lists)
	s.FragAt = lay(p.places)
	s.IDAt = lay(p.owners)
	s.XattrAt = lay(p.xattrs)
	first, _ := super.Put(t, s)
	copy(image, first)
	return image, api.OK
}
