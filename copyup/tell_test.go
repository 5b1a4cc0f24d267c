package copyup_test

import (
	"strings"
	"testing"

	"lamella/api"
	"lamella/look"
)

// What tests ask a stack for.

// listIs is a list in words: each name with the sign of its kind.
func listIs(t *testing.T, s *look.Stack, path, want string) {
	t.Helper()
	l, e := s.List(named(path))
	var words []string
	for _, x := range l {
		words = append(words, x.Name+sign(x.Kind))
	}
	if got := strings.Join(words, " "); got != want || e != api.OK {
		t.Errorf("List of %q: %s, error %d; wanted %s\n%s", path, got, e, want, shows(s))
	}
}

func readIs(t *testing.T, s *look.Stack, path, want string) {
	t.Helper()
	if b, e := s.Read(named(path), 0, api.MaxFile); string(b) != want || e != api.OK {
		t.Errorf("Read of %q: %q, error %d; wanted %q\n%s", path, b, e, want, shows(s))
	}
}

func statIs(t *testing.T, s *look.Stack, path string, kind, links int) {
	t.Helper()
	if got, e := s.Stat(named(path)); got.Kind != kind || got.Links != links || e != api.OK {
		t.Errorf("Stat of %q: %+v, error %d; wanted Kind %d, Links %d\n%s", path, got, e, kind, links, shows(s))
	}
}

func noStat(t *testing.T, s *look.Stack, want api.Errno, paths ...string) {
	t.Helper()
	for _, path := range paths {
		if got, e := s.Stat(named(path)); got != (api.Stat{}) || e != want {
			t.Errorf("Stat of %q: %+v, error %d; wanted error %d\n%s", path, got, e, want, shows(s))
		}
	}
}

// cost is how many bytes a tree takes in an upper branch (P17.5).
func cost(l []api.Node) int {
	bytes, inos := 0, map[int]int{}
	for _, n := range l {
		if len(n.Names) > 0 {
			bytes += len(n.Names[len(n.Names)-1])
		}
		if inos[n.Ino]++; inos[n.Ino] > 1 {
			continue
		}
		bytes += api.NodeCost + len(n.Data) + len(n.Target)
		for _, x := range n.Xattrs {
			bytes += len(x.Name) + len(x.Value)
		}
	}
	return bytes
}

// mixed is bytes of which few come again.
func mixed(n int) []byte {
	b := make([]byte, n)
	for i := range b {
		b[i] = byte(i*i*31 + i>>3)
	}
	return b
}
