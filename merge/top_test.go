package merge_test

import (
	"math"
	"slices"
	"testing"

	"lamella/api"
	"lamella/merge"
)

// P19.2: Top and Below.

func TestTop(t *testing.T) {
	for _, x := range []struct {
		layers []string
		path   string
		layer  int
		want   string // the node in words
	}{
		{nil, "", -1, ""}, {nil, "a", -1, ""},
		{[]string{""}, "", 0, "/:0"}, {[]string{"", ""}, "", 0, "/:0"}, {[]string{"!", ""}, "", 0, "!:0"}, {[]string{"", "!"}, "", 0, "/:0"},
		// The first of Sources is the first layer.
		{[]string{"a"}, "a", 0, "a:0"}, {[]string{"a", "a"}, "a", 0, "a:0"}, {[]string{"a", "a/"}, "a", 0, "a:0"}, {[]string{"a/", "a"}, "a", 0, "a/:0"}, {[]string{"a!", "a/"}, "a", 0, "a!:0"}, {[]string{"a@", "a"}, "a", 0, "a@:0"},
		{[]string{"d/ d/f", "d/ d/f"}, "d/f", 0, "d/f:0"}, {[]string{"d/ d/f", "d-"}, "d/f", 0, "d/f:0"},
		// It isn't.
		{[]string{"", "a"}, "a", 1, "a:1"}, {[]string{"b", "", "", "a@"}, "a", 3, "a@:3"}, {[]string{"d/", "d/ d/f"}, "d/f", 1, "d/f:1"}, {[]string{"d/", "d/", "e/", "d! d/f/"}, "d/f", 3, "d/f/:3"},
		{[]string{"d/ d/e/", "d/", "d/ d/e/ d/e/f"}, "d/e/f", 2, "d/e/f:2"}, {[]string{"", "", "", "", "", "", "", "a"}, "a", 7, "a:7"}, {[]string{"", "! a!", "a"}, "a", 1, "a!:1"},
		// There are none.
		{[]string{""}, "a", -1, ""}, {[]string{"a-"}, "a", -1, ""}, {[]string{"a-", "a"}, "a", -1, ""}, {[]string{"", "a-", "a"}, "a", -1, ""}, {[]string{"!", "a"}, "a", -1, ""}, {[]string{"a"}, "a/b", -1, ""},
		{[]string{"d!", "d/ d/f"}, "d/f", -1, ""}, {[]string{"d/", "d", "d/ d/f"}, "d/f", -1, ""}, {[]string{"d-", "d/ d/f"}, "d/f", -1, ""}, {[]string{"d/ d/f-", "d/ d/f"}, "d/f", -1, ""}, {[]string{"d@", "d/ d/f"}, "d/f", -1, ""},
	} {
		layers := layersOf(t, x.layers...)
		for range 5 { // the nodes of each layer stand otherwise each time
			layer, i := merge.Top(layers, named(x.path))
			switch {
			case layer != x.layer || layer < 0 && i != -1:
				t.Errorf("%q: Top of %q: %d, %d; wanted %d", x.layers, x.path, layer, i, x.layer)
			case layer >= 0 && (i < 0 || i >= len(layers[layer]) || words(layers[layer][i]) != x.want):
				t.Errorf("%q: Top of %q: %d, %d, wanted %q", x.layers, x.path, layer, i, x.want)
			}
			for i, l := range layers {
				layers[i] = append(slices.Clone(l[1:]), l[0])
			}
		}
	}
}

// TestTopIsANumberInItsLayer is written out.
func TestTopIsANumberInItsLayer(t *testing.T) {
	layers := layersOf(t, "d/ w-", "w d/ d/f e", "e d/ d/g d/f")
	layers[2][0], layers[2][3] = layers[2][3], layers[2][0]
	for path, want := range map[string][2]int{"": {0, 0}, "d": {0, 1}, "w": {-1, -1}, "e": {1, 4}, "d/f": {1, 3}, "d/g": {2, 0}, "f": {-1, -1}, "d/g/h": {-1, -1}} {
		if layer, i := merge.Top(layers, named(path)); layer != want[0] || i != want[1] {
			t.Errorf("Top of %q: %d, %d, wanted %v", path, layer, i, want)
		}
	}
}

// TestBelow: of each layer whether something is behind it.
func TestBelow(t *testing.T) {
	for _, x := range []struct {
		layers []string
		path   string
		last   int // the last layer of which something is; -1, if it is none
	}{
		{nil, "", -1}, {nil, "a", -1},
		{[]string{""}, "a", -1}, {[]string{"", "", ""}, "a", -1}, {[]string{"b", "a/"}, "c", -1},
		{[]string{"a", "", ""}, "a", 0}, {[]string{"a", "a", ""}, "a", 1}, {[]string{"", "", "a"}, "a", 2}, {[]string{"a/", "a/", "a/"}, "a", 2}, {[]string{"a@", "", "a@", ""}, "a", 2},
		{[]string{"", "", "", "", "", "", "", "a"}, "a", 7},
		// A White is something, also alone.
		{[]string{"", "a-"}, "a", 1}, {[]string{"a", "a-"}, "a", 1}, {[]string{"a-", "a-"}, "a", 1}, {[]string{"a-"}, "a", 0}, {[]string{"d/", "d/", "d/ d/w-"}, "d/w", 2},
		// What is hidden by the names' own node ahead is there all the same.
		{[]string{"a!", "a/"}, "a", 1}, {[]string{"a-", "a"}, "a", 1}, {[]string{"a", "a/"}, "a", 1}, {[]string{"a/", "a-", "a!", "a"}, "a", 3}, {[]string{"a-", "a!", "", "a/"}, "a", 3},
		{[]string{"d/ d/f", "d/ d/f-", "d/ d/f!"}, "d/f", 2},
		// What is above the names cuts it off: an Opaque directory, a file, a symbolic link, a White, the root.
		{[]string{"d!", "d/ d/f"}, "d/f", -1}, {[]string{"d! d/f", "d/ d/f"}, "d/f", 0}, {[]string{"d/", "d! d/f", "d/ d/f"}, "d/f", 1}, {[]string{"d/", "d!", "d/ d/f-"}, "d/f", -1},
		{[]string{"d/ d/f", "d", "d/ d/f"}, "d/f", 0}, {[]string{"d", "d/ d/f"}, "d/f", -1}, {[]string{"d/", "d@", "d/ d/f"}, "d/f", -1},
		{[]string{"d/ d/f", "d-", "d/ d/f"}, "d/f", 0}, {[]string{"d-", "d/ d/f"}, "d/f", -1}, {[]string{"d/", "d/ d/f", "d-", "d/ d/f"}, "d/f", 1},
		{[]string{"!", "a"}, "a", -1}, {[]string{"a", "! a", "a"}, "a", 1}, {[]string{"", "!", "d/ d/f"}, "d/f", -1}, {[]string{"! d/ d/f", "d/ d/f"}, "d/f", 0},
		{[]string{"a/ a/b/", "a! a/b/", "a/ a/b/ a/b/c"}, "a/b/c", -1}, {[]string{"a/ a/b/", "a/", "a/ a/b/ a/b/c"}, "a/b/c", 2}, {[]string{"a/ a/b/", "a/ a/b", "a/ a/b/ a/b/c"}, "a/b/c", -1},
		// Below what is no directory, or isn't there.
		{[]string{"d"}, "d/f", -1}, {[]string{"", "d@"}, "d/f", -1}, {[]string{"", "d-"}, "d/f", -1}, {[]string{"", ""}, "d/f", -1}, {[]string{"d/", "d/ d/e"}, "d/f/g", -1},
		// No names.
		{[]string{""}, "", -1}, {[]string{"", ""}, "", -1}, {[]string{"", "a", "! b", ""}, "", -1},
	} {
		layers := layersOf(t, x.layers...)
		for layer := -3; layer < len(layers)+3; layer++ {
			if got := merge.Below(layers, named(x.path), layer); got != (x.last >= 0 && layer < x.last) {
				t.Errorf("%q: Below of %q and the layer %d: %t", x.layers, x.path, layer, got)
			}
		}
		for layer, want := range map[int]bool{math.MinInt: x.last >= 0, math.MaxInt: false, math.MaxInt - 1: false} {
			if got := merge.Below(layers, named(x.path), layer); got != want {
				t.Errorf("%q: Below of %q and the layer %d: %t", x.layers, x.path, layer, got)
			}
		}
	}
}

// TestBelowOfNames: names that are none, but not nil, and such of sixteen.
func TestBelowOfNames(t *testing.T) {
	layers := layersOf(t, chain(16, "/"), chain(16, "-"), chain(15, "!"), chain(16, ""))
	for layer := -2; layer < 6; layer++ {
		if merge.Below(layers, []string{}, layer) {
			t.Errorf("Below of no names, %d", layer)
		}
		if got := merge.Below(layers, named(deep(16)), layer); got != (layer < 1) {
			t.Errorf("Below of sixteen names, %d: %t", layer, got)
		}
		if got := merge.Below(layers, named(deep(15)), layer); got != (layer < 3) {
			t.Errorf("Below of fifteen names, %d: %t", layer, got)
		}
		if merge.Below(layers, named(deep(17)), layer) {
			t.Errorf("Below of seventeen names, %d", layer)
		}
	}
}

// TestExamples: of the chapter's stacks all that is told.
func TestExamples(t *testing.T) {
	for _, x := range []struct {
		layers  []string
		path    string
		layer   int
		below   bool
		sources []int
		merged  string
	}{
		{[]string{"a-", "a b"}, "a", -1, true, nil, "/:0=1 b:1=2"},
		{[]string{"d/", "d/ d/f"}, "d", 0, true, []int{0, 1}, "/:0=1 d/:0=2 d/f:1=3"},
		{[]string{"d!", "d/ d/f"}, "d", 0, true, []int{0}, "/:0=1 d/:0=2"},
	} {
		layers := layersOf(t, x.layers...)
		sources(t, layers, x.path, x.sources...)
		if layer, _ := merge.Top(layers, named(x.path)); layer != x.layer {
			t.Errorf("%q: Top of %q: %d", x.layers, x.path, layer)
		}
		if got := merge.Below(layers, named(x.path), 0); got != x.below {
			t.Errorf("%q: Below of %q: %t", x.layers, x.path, got)
		}
		if got := short(merge.Merge(layers)); got != x.merged {
			t.Errorf("%q: Merge: %s, wanted %s", x.layers, got, x.merged)
		}
	}
}

// TestTopIsOfSources: Top is told just where there are Sources, and never a White.
func TestTopIsOfSources(t *testing.T) {
	for seed := range 300 {
		layers := anyLayers(seed)
		for _, names := range allNames(layers) {
			of := merge.Sources(layers, names)
			layer, i := merge.Top(layers, names)
			switch {
			case len(of) == 0:
				if layer != -1 || i != -1 {
					t.Fatalf("row %d: Top of %q: %d, %d", seed, names, layer, i)
				}
			case layer != of[0] || !slices.Equal(layers[layer][i].Names, names) || layers[layer][i].Kind == api.White:
				t.Fatalf("row %d: Top of %q: %d, %d; Sources %v", seed, names, layer, i, of)
			}
		}
	}
}
