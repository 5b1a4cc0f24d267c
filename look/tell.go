package look

import (
	"maps"
	"slices"

	"lamella/api"
	"lamella/image"
)

// told is what tell makes of the spots of names; beside an error nothing is told.
func told[T any](s *Stack, names []string, tell func(spots []Spot) (T, api.Errno)) (T, api.Errno) {
	var none T
	spots, e := s.Spots(names)
	if e != api.OK {
		return none, e
	}
	answer, e := tell(spots)
	if e != api.OK {
		return none, e
	}
	return answer, api.OK
}

// first is the branch that tells of what has these spots, and its ref there.
func (s *Stack) first(spots []Spot) (image.Branch, int) {
	return s.layer(spots[0].Layer), spots[0].Ref
}

// within is the list of what has these spots. What is no directory has one spot alone, of which the branch tells the error.
func (s *Stack) within(spots []Spot) ([]api.Entry, api.Errno) {
	kinds := map[string]int{} // by name: the first spot that has one tells, as merge.Top goes by that alone
	for _, p := range spots {
		l, e := s.layer(p.Layer).List(p.Ref)
		if e != api.OK {
			return nil, e
		}
		for _, x := range l {
			if _, found := kinds[x.Name]; !found {
				kinds[x.Name] = x.Kind
			}
		}
	}
	var l []api.Entry
	for _, n := range slices.Sorted(maps.Keys(kinds)) {
		if kinds[n] != api.White {
			l = append(l, api.Entry{Name: n, Kind: kinds[n]})
		}
	}
	return l, api.OK
}

// copied shares no value with l: a branch that is neither an image nor an upper one may have handed out its own.
func copied(l []api.Xattr) []api.Xattr {
	l = slices.Clone(l)
	for i := range l {
		l[i].Value = slices.Clone(l[i].Value)
	}
	return l
}
