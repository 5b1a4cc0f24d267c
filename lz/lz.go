// Package lz is layer 1: bytes that are packed: see shared/doc/01-lz.md.
package lz

import "lamella/api"

// Pack packs bytes: at each place the longest copy, from the nearest place that has it, so that there is one answer alone.
func Pack(b []byte) ([]byte, api.Errno) {
	if len(b) > api.MaxPlain {
		return nil, api.ErrBig
	}
	var out []byte
	seen := newTrios()
	run := 0 // where the bytes begin that no token stands for yet
	for at := 0; at < len(b); {
		length, back := seen.match(b, at)
		if length == 0 {
			at++
		} else {
			out = appendRuns(out, b[run:at])
			out = appendCopy(out, length, back)
			at += length
			run = at
		}
		seen.addUpTo(b, at)
	}
	return appendRuns(out, b[run:]), api.OK
}

// Unpack unpacks bytes, most of them at most.
func Unpack(b []byte, most int) ([]byte, api.Errno) {
	if most < 0 {
		return nil, api.ErrArg
	}
	var out []byte
	for len(b) > 0 {
		t, whole := firstToken(b)
		if !whole || t.back > len(out) {
			return nil, api.ErrCorrupt
		}
		if t.length > most-len(out) { // a sum with most could wrap round
			return nil, api.ErrBig
		}
		out = t.appendTo(out)
		b = b[t.size:]
	}
	return out, api.OK
}

// Match is what stands ahead likewise: how many bytes, and how far back.
func Match(b []byte, at int) (length, back int) {
	if at < 0 || at >= len(b) {
		return 0, 0
	}
	// Only these bytes have a say: b itself may be far longer.
	from := max(0, at-api.Window)
	near := b[from : at+min(api.MaxMatch, len(b)-at)]
	seen := newTrios()
	seen.addUpTo(near, at-from)
	return seen.match(near, at-from)
}
