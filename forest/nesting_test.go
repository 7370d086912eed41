package forest_test

import (
	"math/rand"
	"slices"
	"strings"
	"testing"

	"pavane/api"
	"pavane/forest"
)

// someLists are the lists of some charts, and the empty one that stands beside an error.
func someLists(t *testing.T, many int) [][]api.Spot {
	none, _ := forest.Flat(api.Chart{})
	l := [][]api.Spot{none, {}, flat(t, parsed(t, exampleSource))}
	for _, c := range someCharts(many) {
		if spots, code := forest.Flat(c); code == api.OK {
			l = append(l, spots)
		}
	}
	return l
}

// P9.2: the document's examples.
func TestNestingExamples(t *testing.T) {
	l := flat(t, parsed(t, exampleSource))
	if up := forest.Up(l, 3); !slices.Equal(up, []int{1, 0}) {
		t.Errorf("Up 3: %v", up)
	}
	if kids := forest.Kids(l, 4); !slices.Equal(kids, []int{5, 6}) {
		t.Errorf("Kids 4: %v", kids)
	}
	for _, c := range []struct {
		want  int
		nodes []int
	}{{1, []int{2, 3}}, {0, []int{2, 5}}, {1, []int{2, 1}}, {1, []int{1, 2}}, {4, []int{6, 5}}, {0, []int{3, 0}}, {6, []int{6}}, {2, []int{2, 2, 2}}, {1, []int{3, 2, 3, 1}}, {0, []int{2, 3, 6}}, {0, []int{0}}, {-1, nil}, {-1, []int{7}}, {-1, []int{-1}}, {-1, []int{2, 7}}, {-1, []int{7, 2}}, {-1, []int{2, -1, 3}}, {-1, []int{7, 7}}, {-1, []int{-1, -1}}} {
		if m := forest.Meet(l, c.nodes...); m != c.want {
			t.Errorf("Meet %v: %d; want %d", c.nodes, m, c.want)
		}
	}
	if !forest.Within(l, 3, 1) || !forest.Within(l, 3, 0) || forest.Within(l, 4, 1) || forest.Within(l, 1, 3) || forest.Within(l, 1, 1) || forest.Within(l, 7, 0) || forest.Within(l, 0, -1) {
		t.Error("Within")
	}
}

// P9.2: Find is the first of a name, of whatever kind, and -1 for a name that is nobody's.
func TestFind(t *testing.T) {
	l := flat(t, parsed(t, "chart c { state a { history b -> a; state A { } } parallel b { deep a -> c; state c { } } deep d -> x; }"))
	for name, want := range map[string]int{"c": 0, "a": 1, "b": 2, "A": 3, "d": 7, "x": -1, "": -1, "C": -1, "aa": -1, " a": -1, "state": -1, "a\x00": -1, strings.Repeat("a", 1<<20): -1} {
		if n := forest.Find(l, name); n != want {
			t.Errorf("Find %q: %d; want %d", short(name), n, want)
		}
	}
	for _, l := range someLists(t, 100) {
		for _, name := range someNames {
			want := -1
			for i, s := range slices.Backward(l) {
				if s.Name == name {
					want = i
				}
			}
			if n := forest.Find(l, name); n != want {
				t.Errorf("Find %q in %v: %d; want %d", name, l, n, want)
			}
		}
	}
}

// P9.2: Within for any two numbers.
func TestWithin(t *testing.T) {
	for _, l := range someLists(t, 130) {
		for _, a := range numbers(l) {
			for _, b := range numbers(l) {
				if in := forest.Within(l, a, b); in != referenceWithin(l, a, b) {
					t.Fatalf("Within %d, %d of %v: %t", a, b, l, in)
				}
			}
		}
	}
}

// P9.2: Up and Kids for any number.
func TestUpAndKids(t *testing.T) {
	for _, l := range someLists(t, 500) {
		for _, n := range numbers(l) {
			if up := forest.Up(l, n); !slices.Equal(up, referenceUp(l, n)) {
				t.Fatalf("Up %d of %v: %v", n, l, up)
			}
			if kids := forest.Kids(l, n); !slices.Equal(kids, referenceKids(l, n)) {
				t.Fatalf("Kids %d of %v: %v", n, l, kids)
			}
		}
	}
}

// P9.2: the root is the last one on each way up, and nobody's kid.
func TestRoot(t *testing.T) {
	for _, l := range someLists(t, 100) {
		if len(forest.Up(l, 0)) > 0 || len(forest.Kids(l, -1)) > 0 || len(forest.Up(l, -1)) > 0 {
			t.Errorf("the root of %v is nested", l)
		}
		for n := 1; n < len(l); n++ {
			if up := forest.Up(l, n); up[len(up)-1] != 0 || len(up) != l[n].Depth {
				t.Errorf("Up %d of %v: %v", n, l, up)
			}
		}
	}
}

// P9.2: Meet of any one, any two, and some more numbers.
func TestMeet(t *testing.T) {
	r := rand.New(rand.NewSource(43))
	check := func(l []api.Spot, nodes ...int) {
		t.Helper()
		if m := forest.Meet(l, nodes...); m != referenceMeet(l, nodes...) {
			t.Fatalf("Meet %v of %v: %d; want %d", nodes, l, m, referenceMeet(l, nodes...))
		}
	}
	for _, l := range someLists(t, 70) {
		all := numbers(l)
		check(l)
		for _, a := range all {
			check(l, a)
			for _, b := range all {
				check(l, a, b)
			}
		}
		for range 200 {
			nodes := make([]int, 3+r.Intn(4))
			for i := range nodes {
				nodes[i] = r.Intn(max(len(l), 1))
			}
			check(l, nodes...)
			nodes[r.Intn(len(nodes))] = all[r.Intn(len(all))]
			check(l, nodes...)
		}
	}
}

// P9.2, W1: a great many nodes.
func TestMeetOfMany(t *testing.T) {
	deep := state("b")
	for range api.MaxDeep - 2 {
		deep = state("a", deep)
	}
	l := flat(t, chart(deep, state("d")))
	nodes := slices.Repeat([]int{11}, 1<<20)
	if m := forest.Meet(l, nodes...); m != 11 {
		t.Errorf("Meet: %d; want 11", m)
	}
	nodes[1<<20-1] = 10
	if m := forest.Meet(l, nodes...); m != 10 {
		t.Errorf("Meet: %d; want 10", m)
	}
	nodes[1<<20-1] = 12
	if m := forest.Meet(l, nodes...); m != 0 {
		t.Errorf("Meet: %d; want 0", m)
	}
	nodes[1<<20-1] = 13
	if m := forest.Meet(l, nodes...); m != -1 {
		t.Errorf("Meet: %d; want -1", m)
	}
}
