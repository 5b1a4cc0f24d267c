package lz

import "lamella/api"

// firstCopy is the least first byte of a copy; those below it begin runs.
const firstCopy = 128

// token is a run, or a copy if its back is above 0: what it stands for has length bytes, the token itself has size.
type token struct {
	run          []byte
	length, back int
	size         int
}

// firstToken is what b, which is not empty, begins with; false, if that is not whole.
func firstToken(b []byte) (token, bool) {
	t := int(b[0])
	if t >= firstCopy {
		if len(b) < 2 {
			return token{}, false
		}
		return token{length: t - firstCopy + api.MinMatch, back: int(b[1]) + 1, size: 2}, true
	}
	size := t + 2
	if len(b) < size {
		return token{}, false
	}
	return token{run: b[1:size], length: t + 1, size: size}, true
}

// appendTo lays down what the token stands for.
func (t token) appendTo(out []byte) []byte {
	if t.back == 0 {
		return append(out, t.run...)
	}
	// Byte by byte: a copy may go on over what it lays down itself.
	for range t.length {
		out = append(out, out[len(out)-t.back])
	}
	return out
}

// appendRuns writes bytes that stand for themselves; none of them is no token.
func appendRuns(out, b []byte) []byte {
	for len(b) > 0 {
		n := min(len(b), api.MaxRun)
		out = append(out, byte(n-1))
		out = append(out, b[:n]...)
		b = b[n:]
	}
	return out
}

// appendCopy writes a copy.
func appendCopy(out []byte, length, back int) []byte {
	return append(out, byte(length-api.MinMatch+firstCopy), byte(back-1))
}
