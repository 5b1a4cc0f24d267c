package lz

import "lamella/api"

// trios tells where three bytes stood ahead: a match of MinMatch bytes begins there or nowhere, so no other place is tried.
type trios struct {
	last  map[int]int // of three bytes the last place that has them
	ahead []int       // of each place the one ahead of it that has the same three, or -1
}

func newTrios() *trios {
	return &trios{last: map[int]int{}}
}

// trio is the three bytes at a place, as one number.
func trio(b []byte, at int) int {
	return int(b[at]) | int(b[at+1])<<8 | int(b[at+2])<<16
}

// addUpTo takes in the places of b below end that were not yet; those at b's end that have no three bytes can't begin a match.
func (s *trios) addUpTo(b []byte, end int) {
	end = min(end, len(b)-api.MinMatch+1)
	for at := len(s.ahead); at < end; at++ {
		key := trio(b, at)
		before, ok := s.last[key]
		if !ok {
			before = -1
		}
		s.ahead = append(s.ahead, before)
		s.last[key] = at
	}
}

// match is Match's answer at a place of b, if just the places below it were taken in.
func (s *trios) match(b []byte, at int) (length, back int) {
	most := min(api.MaxMatch, len(b)-at)
	if most < api.MinMatch {
		return 0, 0
	}
	place, ok := s.last[trio(b, at)]
	if !ok {
		return 0, 0
	}
	// From the nearest place on: a farther one must be longer to count.
	for place >= 0 && at-place <= api.Window && length < most {
		if n := likewise(b, place, at, most); n > length {
			length, back = n, at-place
		}
		place = s.ahead[place]
	}
	return length, back
}

// likewise is how many bytes from at on are as those from place on, most at most.
func likewise(b []byte, place, at, most int) int {
	n := 0
	for n < most && b[place+n] == b[at+n] {
		n++
	}
	return n
}
