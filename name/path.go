package name

import (
	"strings"

	"lamella/api"
)

// Split cuts a path into names, Join puts one together.
func Split(path string) ([]string, bool, api.Errno) {
	if len(path) > api.MaxPath {
		return nil, false, api.ErrLong
	}
	if !strings.HasPrefix(path, "/") {
		return nil, false, api.ErrName
	}
	all := parts(path)
	var l []string
	for _, part := range all {
		if isHere(part) {
			continue
		}
		if e := Valid(part); e != api.OK && part != ".." {
			return nil, false, e
		}
		// A copy, for else the path would stay as long as one of its names.
		l = append(l, strings.Clone(part))
	}
	last := all[len(all)-1]
	return l, isHere(last) || last == "..", api.OK
}

func Join(l []string) string {
	if len(l) == 0 {
		return "/"
	}
	var path strings.Builder
	for _, s := range l {
		path.WriteByte('/')
		path.WriteString(s)
	}
	return path.String()
}

// parts is what stands between the slashes, with the empty parts: the last of them tells how the path ends.
func parts(path string) []string {
	var l []string
	from := 0
	for i, r := range path {
		if r == '/' {
			l = append(l, path[from:i])
			from = i + 1
		}
	}
	return append(l, path[from:])
}

// isHere is of a part that leads nowhere else.
func isHere(part string) bool { return part == "" || part == "." }
