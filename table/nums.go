package table

import (
	"math"

	"lamella/api"
	"lamella/cursor"
	"lamella/meta"
)

// PutNums writes numbers, TakeNums reads them.
func PutNums(l []int, wide int) ([]byte, api.Errno) {
	if !isWide(wide) {
		return nil, api.ErrArg
	}
	var w cursor.Writer
	for _, x := range l {
		w.Num(x, wide)
	}
	return w.Done(), w.Err()
}

func TakeNums(r *meta.Reader, many, wide int) ([]int, api.Errno) {
	if many < 0 || !isWide(wide) {
		return nil, api.ErrArg
	}
	b, ok := whole(r, many, wide)
	if !ok {
		return nil, api.ErrCorrupt
	}
	c := cursor.Read(b)
	l := make([]int, many)
	for i := range l {
		l[i] = c.Num(wide)
	}
	return l, api.OK
}

// isWide is of how many bytes a table's numbers may be: the owners' are of 2, the places' of 4.
func isWide(wide int) bool { return wide == 2 || wide == 4 }

// whole is all that a row has; false, if that is not just so many numbers.
func whole(r *meta.Reader, many, wide int) ([]byte, bool) {
	if many > math.MaxInt/wide { // more than any row has; the product would wrap round
		return nil, false
	}
	b, next, e := r.Read(0, many*wide)
	if e != api.OK {
		return nil, false
	}
	_, _, behind := r.Read(next, 1)
	return b, behind != api.OK
}
