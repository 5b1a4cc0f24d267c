package upper

import (
	"lamella/api"
	"lamella/table"
)

// Write, Resize, SetAttr, SetXattrs and SetOpaque change nodes.
func (u *Upper) Write(ref, off int, b []byte) api.Errno {
	f, e := u.file(ref)
	if e != api.OK {
		return e
	}
	if off < 0 {
		return api.ErrArg
	}
	if len(b) > api.MaxFile-off { // holds of each off above it, too; a sum could wrap round
		return api.ErrBig
	}
	if len(b) == 0 {
		return api.OK
	}
	f.resize(max(len(f.Data), off+len(b)))
	copy(f.Data[off:], b)
	return api.OK
}

func (u *Upper) Resize(ref, n int) api.Errno {
	f, e := u.file(ref)
	if e != api.OK {
		return e
	}
	if n < 0 {
		return api.ErrArg
	}
	if n > api.MaxFile {
		return api.ErrBig
	}
	f.resize(n)
	return api.OK
}

func (u *Upper) SetAttr(ref int, a api.Attr) api.Errno {
	n, ok := u.nodes[ref]
	if !ok || !attrMayBe(a) || n.Kind == api.White {
		return api.ErrArg
	}
	n.Attr = a
	return api.OK
}

func (u *Upper) SetXattrs(ref int, l []api.Xattr) api.Errno {
	n, ok := u.nodes[ref]
	if !ok || !table.MayXattrs(l) || n.Kind == api.White {
		return api.ErrArg
	}
	n.Xattrs = copied(l)
	return api.OK
}

func (u *Upper) SetOpaque(ref int, on bool) api.Errno {
	d, e := u.dir(ref)
	if e != api.OK {
		return e
	}
	d.Opaque = on
	return api.OK
}

// resize lays the bytes down anew, as those that were cut off may still stand in the spare room behind the old ones.
func (n *node) resize(size int) {
	b := make([]byte, size)
	copy(b, n.Data)
	n.Data = b
}
