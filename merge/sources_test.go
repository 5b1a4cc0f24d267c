package merge_test

import (
	"fmt"
	"slices"
	"strings"
	"testing"

	"lamella/api"
	"lamella/merge"
)

// P19.1: Sources.

// sources is of layers that may be: of these names they are just these.
func sources(t *testing.T, layers [][]api.Node, path string, want ...int) {
	t.Helper()
	may(t, layers)
	if got := merge.Sources(layers, named(path)); !slices.Equal(got, want) {
		t.Errorf("Sources of %q: %v, wanted %v\n%s", path, got, want, shows(layers))
	}
}

func TestSourcesOfNoLayers(t *testing.T) {
	for _, path := range []string{"", "a", "a/b"} {
		sources(t, nil, path)
		sources(t, [][]api.Node{}, path)
	}
}

func TestSourcesOfTheRoot(t *testing.T) {
	for _, x := range []struct {
		layers []string
		want   []int
	}{
		{[]string{""}, []int{0}},
		{[]string{"!"}, []int{0}},
		{[]string{"", "", ""}, []int{0, 1, 2}},
		{[]string{"!", "", ""}, []int{0}},
		{[]string{"", "!", ""}, []int{0, 1}},
		{[]string{"", "", "!"}, []int{0, 1, 2}},
		{[]string{"!", "!", "!"}, []int{0}},
		{[]string{"", "!", "!"}, []int{0, 1}},
		{[]string{"a", "a- b!", "", "! a!", "", "!"}, []int{0, 1, 2, 3}},
		{[]string{"a!", "a!", "a!"}, []int{0, 1, 2}},
		{slices.Repeat([]string{""}, 8), []int{0, 1, 2, 3, 4, 5, 6, 7}},
	} {
		sources(t, stacked(x.layers...), "", x.want...)
	}
	sources(t, stacked(slices.Repeat([]string{"a/"}, 20)...), "", 0, 1, 2, 3, 4, 5, 6, 7, 8, 9, 10, 11, 12, 13, 14, 15, 16, 17, 18, 19)
}

// TestSourcesOfOneName: what stands in the layers at d.
func TestSourcesOfOneName(t *testing.T) {
	for _, x := range []struct {
		layers []string
		want   []int
	}{
		// In one layer alone, in some, in all, in none.
		{[]string{"d", "", ""}, []int{0}}, {[]string{"", "d", ""}, []int{1}}, {[]string{"", "", "d"}, []int{2}},
		{[]string{"d/", "", ""}, []int{0}}, {[]string{"", "d/", ""}, []int{1}}, {[]string{"", "", "d/"}, []int{2}},
		{[]string{"d-", "", ""}, nil}, {[]string{"", "d-", ""}, nil}, {[]string{"", "", "d-"}, nil},
		{[]string{"d/", "", "d/"}, []int{0, 2}}, {[]string{"", "d/", "d/"}, []int{1, 2}}, {[]string{"d/", "d/", ""}, []int{0, 1}},
		{[]string{"d/", "d/", "d/"}, []int{0, 1, 2}}, {[]string{"e", "e/ e/d", "e-"}, nil},
		// One above another one.
		{[]string{"d/", "d/"}, []int{0, 1}}, {[]string{"d/", "d"}, []int{0}}, {[]string{"d/", "d@"}, []int{0}}, {[]string{"d/", "d-"}, []int{0}}, {[]string{"d/", "d!"}, []int{0, 1}},
		{[]string{"d!", "d/"}, []int{0}}, {[]string{"d!", "d"}, []int{0}}, {[]string{"d!", "d-"}, []int{0}}, {[]string{"d!", "d!"}, []int{0}},
		{[]string{"d-", "d/"}, nil}, {[]string{"d-", "d"}, nil}, {[]string{"d-", "d@"}, nil}, {[]string{"d-", "d-"}, nil}, {[]string{"d-", "d!"}, nil},
		{[]string{"d", "d/"}, []int{0}}, {[]string{"d", "d"}, []int{0}}, {[]string{"d", "d@"}, []int{0}}, {[]string{"d", "d-"}, []int{0}}, {[]string{"d", "d!"}, []int{0}},
		{[]string{"d@", "d/"}, []int{0}}, {[]string{"d@", "d"}, []int{0}}, {[]string{"d@", "d@"}, []int{0}}, {[]string{"d@", "d-"}, []int{0}}, {[]string{"d@", "d!"}, []int{0}},
		// Between two directories; what is behind is not of the first one.
		{[]string{"d/", "d", "d/"}, []int{0}}, {[]string{"d/", "d@", "d/"}, []int{0}}, {[]string{"d/", "d-", "d/"}, []int{0}},
		{[]string{"d/", "d/", "d", "d/"}, []int{0, 1}}, {[]string{"d/", "", "d-", "d/"}, []int{0}}, {[]string{"", "d/", "d-", "", "d/"}, []int{1}},
		{[]string{"d/", "d", "d!"}, []int{0}}, {[]string{"d/", "d-", "d!"}, []int{0}},
		// An Opaque one first, in the midst, last, and behind a file.
		{[]string{"d!", "d/", "d/"}, []int{0}}, {[]string{"d/", "d!", "d/"}, []int{0, 1}}, {[]string{"d/", "d/", "d!"}, []int{0, 1, 2}},
		{[]string{"d/", "d!", "d!", "d/"}, []int{0, 1}}, {[]string{"d/", "d!", "d"}, []int{0, 1}}, {[]string{"d/", "d!", "d-"}, []int{0, 1}},
		{[]string{"d", "d!", "d/"}, []int{0}}, {[]string{"d/", "d", "d!", "d/"}, []int{0}}, {[]string{"d-", "d!", "d/"}, nil},
		// A layer that has nothing there is passed.
		{[]string{"d/", "", "d/", "", "d!", "", "d/"}, []int{0, 2, 4}}, {[]string{"", "", "d", "", "d/"}, []int{2}}, {[]string{"", "d-", "", "d/"}, nil},
		{[]string{"d/", "e d-e/", "d/", "d-"}, []int{0, 2}},
		// The root ends what is looked at.
		{[]string{"!", "d/"}, nil}, {[]string{"! d/", "d/"}, []int{0}}, {[]string{"d/", "!", "d/"}, []int{0}}, {[]string{"", "! d/", "d/"}, []int{1}}, {[]string{"d/", "! d/", "d/"}, []int{0, 1}}, {[]string{"", "!", "d"}, nil},
		// Eight layers.
		{[]string{"d/", "d/", "d/", "d/", "d/", "d/", "d/", "d/"}, []int{0, 1, 2, 3, 4, 5, 6, 7}},
		{[]string{"", "d/", "", "d/", "d/", "", "d!", "d/"}, []int{1, 3, 4, 6}},
	} {
		sources(t, stacked(x.layers...), "d", x.want...)
		// The same within a directory that all layers have; and within one of sixteen names.
		for _, dir := range []string{"p", "p/p/p/p/p/p/p/p/p/p/p/p/p/p/p"} {
			sources(t, stacked(moved(dir, x.layers)...), dir+"/d", x.want...)
		}
	}
}

// moved is layers whose nodes stand in a directory instead; what was the root is the directory. What would have more than sixteen names is left out.
func moved(dir string, layers []string) []string {
	var out []string
	for _, s := range layers {
		var l []string
		for i := range strings.Count(dir, "/") + 1 {
			l = append(l, strings.Join(named(dir)[:i+1], "/")+"/")
		}
		for _, word := range strings.Fields(s) {
			switch {
			case word == "!":
				l[len(l)-1] = dir + "!"
			case strings.Count(dir, "/")+strings.Count(strings.TrimRight(word, signs), "/") < 15:
				l = append(l, dir+"/"+word)
			}
		}
		out = append(out, strings.Join(l, " "))
	}
	return out
}

// TestSourcesBelow: names within what is made of some of the layers alone.
func TestSourcesBelow(t *testing.T) {
	for _, x := range []struct {
		layers []string
		path   string
		want   []int
	}{
		{[]string{"d/ d/f", "d/ d/f"}, "d/f", []int{0}},
		{[]string{"d/", "d/ d/f"}, "d/f", []int{1}},
		{[]string{"d/", "d/", "d/ d/e/"}, "d/e", []int{2}},
		{[]string{"d/ d/e/", "d/", "d/ d/e/"}, "d/e", []int{0, 2}},
		{[]string{"d/ d/f-", "d/ d/f"}, "d/f", nil},
		// The layer that has them is none of which the directory is made.
		{[]string{"d!", "d/ d/f"}, "d/f", nil},
		{[]string{"d! d/e/", "d/ d/e/"}, "d/e", []int{0}},
		{[]string{"d/ d/e/", "d!", "d/ d/e/"}, "d/e", []int{0}},
		{[]string{"d/", "d! d/e/", "d/ d/e/"}, "d/e", []int{1}},
		{[]string{"d/", "d", "d/ d/f"}, "d/f", nil},
		{[]string{"d/", "d-", "d/ d/f"}, "d/f", nil},
		{[]string{"d/ d/e/", "d@", "d/ d/e/"}, "d/e", []int{0}},
		{[]string{"d/ d/e/", "d-", "d/ d/e/"}, "d/e", []int{0}},
		{[]string{"", "!", "d/ d/f"}, "d/f", nil},
		{[]string{"d/ d/e/", "!", "d/ d/e/"}, "d/e", []int{0}},
		{[]string{"a/ a/b/ a/b/c/", "a/ a/b!", "a/ a/b/ a/b/c/"}, "a/b/c", []int{0}},
		{[]string{"a/ a/b/ a/b/c/", "a!", "a/ a/b/ a/b/c/"}, "a/b/c", []int{0}},
		{[]string{"a/", "a! a/b/", "a/ a/b/ a/b/c/"}, "a/b/c", nil},
		{[]string{"a/ a/b/", "a/ a/b-", "a/ a/b/ a/b/c/"}, "a/b/c", nil},
		{[]string{"a/ a/b/", "a/", "a/ a/b/ a/b/c/", "a/ a/b/ a/b/c!", "a/ a/b/ a/b/c/"}, "a/b/c", []int{2, 3}},
		{[]string{"d/ d/e/ d/e/f/", "d/ d/e", "d/ d/e/ d/e/f/"}, "d/e", []int{0}},
		{[]string{"d/ d/e/ d/e/f/", "d/ d/e", "d/ d/e/ d/e/f/"}, "d/e/f", []int{0}},
		// Below a file, a symbolic link, a White, and what isn't there.
		{[]string{"d", "d/ d/f"}, "d/f", nil}, {[]string{"d"}, "d/f", nil}, {[]string{"d"}, "d/f/g/h", nil},
		{[]string{"d@", "d/ d/f"}, "d/f", nil}, {[]string{"d@"}, "d/f", nil},
		{[]string{"d-", "d/ d/f"}, "d/f", nil}, {[]string{"d-"}, "d/f", nil}, {[]string{"d-", "d/ d/e/ d/e/f"}, "d/e/f", nil},
		{[]string{"", ""}, "d/f", nil}, {[]string{"d/", "d/"}, "d/f", nil}, {[]string{"d/"}, "d/e/f", nil}, {[]string{"f"}, "d/f", nil}, {[]string{"d/ d/d"}, "d/d/d", nil},
		// A name that is the beginning of another one, or stands elsewhere.
		{[]string{"d/ d/ff"}, "d/f", nil}, {[]string{"d/ d/f"}, "d/ff", nil}, {[]string{"dd/ dd/f"}, "d/f", nil}, {[]string{"e/ e/f", "d/"}, "d/f", nil}, {[]string{"d/ d/f", "d/ d/e/ d/e/f"}, "f", nil},
	} {
		sources(t, stacked(x.layers...), x.path, x.want...)
	}
}

// chain is directories one in the other, of so many names; the sign is that of the last one.
func chain(depth int, sign string) string {
	var l []string
	for i := 1; i < depth; i++ {
		l = append(l, strings.Repeat("d/", i))
	}
	return strings.Join(append(l, strings.Repeat("d/", depth-1)+"d"+sign), " ")
}

func deep(depth int) string { return strings.TrimSuffix(strings.Repeat("d/", depth), "/") }

// TestSourcesOfSixteenNames: what hides at one depth hides at each greater one.
func TestSourcesOfSixteenNames(t *testing.T) {
	for at := 1; at <= 16; at++ {
		for sign, want := range map[string][2][]int{"!": {{0, 1}, {0}}, "": {{0}, {0}}, "-": {{0}, {0}}, "/": {{0, 1, 2}, {0, 2}}} {
			layers := stacked(chain(16, "/"), chain(at, sign), chain(16, "/"))
			for depth := range 17 {
				expected := []int{0, 1, 2}
				if depth == at {
					expected = want[0]
				} else if depth > at {
					expected = want[1]
				}
				sources(t, layers, deep(depth), expected...)
			}
		}
	}
	layers := stacked(chain(16, ""), chain(16, "-"), chain(15, "/"), chain(16, "!"))
	sources(t, layers, deep(16), 0)
	sources(t, layers[1:], deep(16))
	sources(t, layers[2:], deep(16), 1)
	sources(t, layers, deep(15), 0, 1, 2, 3)
	sources(t, layers, deep(17))
	sources(t, layers[2:], deep(17))
	sources(t, layers, deep(400))
}

// TestSourcesOfAnyNames: valid names of bytes of any sort.
func TestSourcesOfAnyNames(t *testing.T) {
	names := []string{" ", "...", "\xff", "\x80", "é", "a\n", strings.Repeat("n", 255)}
	for _, s := range names {
		top := []api.Node{{Ino: 1, Kind: api.Dir}, {Names: []string{s}, Ino: 2, Kind: api.Dir}}
		low := append(slices.Clone(top), api.Node{Names: []string{s, s}, Ino: 3, Kind: api.White})
		layers := [][]api.Node{top, low}
		may(t, layers)
		for _, other := range names {
			for depth, want := range [][]int{{0, 1}, {0, 1}, nil, nil} {
				if other != s && depth > 0 {
					want = nil
				}
				if got := merge.Sources(layers, slices.Repeat([]string{other}, depth)); !slices.Equal(got, want) {
					t.Errorf("Sources of %d times %q: %v, wanted %v, where %q is", depth, other, got, want, s)
				}
			}
		}
	}
}

// TestOrderOfNodesMakesNoDifference: a directory may stand behind what is in it, and the root behind all.
func TestOrderOfNodesMakesNoDifference(t *testing.T) {
	for seed := range 200 {
		layers := anyLayers(seed)
		c := chance(seed)
		others := make([][]api.Node, len(layers))
		for i, l := range layers {
			others[i] = slices.Clone(l)
			shuffle(&c, others[i])
		}
		merges(t, fmt.Sprint("row ", seed), others, merge.Merge(layers))
		for _, names := range allNames(layers) {
			if a, b := merge.Sources(layers, names), merge.Sources(others, names); !slices.Equal(a, b) {
				t.Fatalf("row %d: Sources of %q: %v, %v", seed, names, a, b)
			}
			layer, i := merge.Top(layers, names)
			other, k := merge.Top(others, names)
			if layer != other || layer >= 0 && !sameNodes(layers[layer][i:i+1], others[layer][k:k+1]) {
				t.Fatalf("row %d: Top of %q: %d, %d; %d, %d", seed, names, layer, i, other, k)
			}
			for layer := -1; layer < len(layers); layer++ {
				if merge.Below(layers, names, layer) != merge.Below(others, names, layer) {
					t.Fatalf("row %d: Below of %q, %d", seed, names, layer)
				}
			}
		}
	}
}

// TestNothingIsWithinWhatIsNoDirectory: also where a layer has something there, which no tree may have.
func TestNothingIsWithinWhatIsNoDirectory(t *testing.T) {
	for _, row := range [][]string{{"d d/f"}, {"d@ d/f"}, {"d- d/f"}, {"", "d d/f"}, {"d d/f", "d/ d/f"}, {"d/f"}, {"d d/e/ d/e/f"}} {
		layers := stacked(row...)
		for _, path := range []string{"d/f", "d/e/f"} {
			if of := merge.Sources(layers, named(path)); len(of) > 0 {
				t.Errorf("%q: Sources of %q: %v", row, path, of)
			}
			if layer, i := merge.Top(layers, named(path)); layer != -1 || i != -1 {
				t.Errorf("%q: Top of %q: %d, %d", row, path, layer, i)
			}
		}
		for _, n := range merge.Merge(layers) {
			if len(n.Names) > 1 {
				t.Errorf("%q: Merge has %q", row, n.Names)
			}
		}
	}
}
