package build

import (
	"lamella/api"
	"lamella/crc"
	"lamella/data"
	"lamella/frag"
)

// file is what a record tells of where a file's bytes are.
type file struct{ start, frag, off int }

// contents are the bytes of all files, as they stand in an image.
type contents struct {
	blocks []byte
	places []int        // of the fragments
	files  map[int]file // by Ino
}

func layContents(t *crc.Table, nodes []api.Node) contents {
	blocks, tails := data.New(t, api.SuperSize), frag.New()
	c := contents{files: map[int]file{}}
	for _, n := range nodes {
		if _, laid := c.files[n.Ino]; laid || n.Kind != api.File {
			continue
		}
		start, tail := blocks.Add(n.Data)
		number, off := tails.Add(tail) // of no tail 0, 0, as the record has it
		c.files[n.Ino] = file{start, number, off}
	}
	for _, b := range tails.Blocks() {
		c.places = append(c.places, blocks.Frame(b))
	}
	c.blocks = blocks.Done()
	return c
}
