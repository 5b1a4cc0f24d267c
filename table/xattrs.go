package table

import (
	"iter"

	"lamella/api"
	"lamella/cursor"
	"lamella/meta"
	"lamella/tree"
)

// MayXattrs tells whether attributes may be: those of a root that stands alone, and has nothing else that could be wrong.
func MayXattrs(l []api.Xattr) bool {
	return tree.Check([]api.Node{{Kind: api.Dir, Xattrs: l}}) == api.OK
}

// PutXattrs writes further attributes, TakeXattrs reads them.
func PutXattrs(l []api.Xattr) ([]byte, api.Errno) {
	if len(l) == 0 || !MayXattrs(l) {
		return nil, api.ErrArg
	}
	var w cursor.Writer
	w.Num(len(l), 1)
	for _, x := range l {
		w.Text(x.Name)
		w.Text(string(x.Value))
	}
	return w.Done(), w.Err()
}

// TakeXattrs tells ErrCorrupt of a ref below 0 too: refs are read out of images, so that a wrong one is the image's fault.
func TakeXattrs(r *meta.Reader, ref int) ([]api.Xattr, api.Errno) {
	count, next, e := r.Read(ref, 1)
	if e != api.OK {
		return nil, api.ErrCorrupt
	}
	many := int(count[0])
	var l []api.Xattr
	for x := range xattrs(r, next, many) {
		l = append(l, x)
	}
	if many == 0 || len(l) < many || !MayXattrs(l) {
		return nil, api.ErrCorrupt
	}
	return l, api.OK
}

// xattrs are so many attributes that stand in a row from ref on; fewer, up to the first one that can't be read.
func xattrs(r *meta.Reader, ref, many int) iter.Seq[api.Xattr] {
	return func(yield func(x api.Xattr) bool) {
		at := ref
		for range many {
			name, behind, e := text(r, at)
			if e != api.OK {
				return
			}
			value, next, e := text(r, behind)
			if e != api.OK || !yield(api.Xattr{Name: string(name), Value: value}) {
				return
			}
			at = next
		}
	}
}

// text is the letters of the text that stands at a ref of a row, and the ref behind it.
func text(r *meta.Reader, ref int) (letters []byte, next int, e api.Errno) {
	size, next, e := r.Read(ref, 1)
	if e != api.OK {
		return nil, 0, e
	}
	return r.Read(next, int(size[0]))
}
