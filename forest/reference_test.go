package forest_test

import (
	"fmt"
	"math/rand"
	"slices"
	"strings"
	"testing"

	"pavane/api"
	"pavane/forest"
	"pavane/printer"
	"pavane/syntax"
)

// The reference reads the formatted lines of a chart: a node is a line that has a node's keyword, and its depth is the line's indentation. How nodes are nested, it tells by parents alone. It shares nothing with the package.

// reference is the spots of a chart that can be printed.
func reference(t *testing.T, c api.Chart) []api.Spot {
	t.Helper()
	s, code := printer.Print(c)
	if code != api.OK {
		t.Fatalf("Print of %s: %d", short(shown(c)), code)
	}
	var l []api.Spot
	for line := range strings.Lines(s) {
		words := strings.Fields(line)
		kind := 1 + slices.Index([]string{"state", "parallel", "history", "deep"}, words[0])
		if words[0] == "chart" {
			kind = api.NodeState
		}
		if kind > 0 {
			l = append(l, api.Spot{Kind: kind, Name: words[1], Depth: strings.Index(line, words[0]) / 2})
		}
	}
	for i := range l {
		l[i].Parent, l[i].End = i, i+1
		for l[i].Parent >= 0 && l[l[i].Parent].Depth >= l[i].Depth {
			l[i].Parent--
		}
		for l[i].End < len(l) && l[l[i].End].Depth > l[i].Depth {
			l[i].End++
		}
	}
	return l
}

// around is the nodes in which a node is nested, and -1 behind them.
func around(l []api.Spot, n int) []int {
	var up []int
	for n >= 0 {
		n = l[n].Parent
		up = append(up, n)
	}
	return up
}

// isIndex reports whether a number is an index.
func isIndex(l []api.Spot, n int) bool { return 0 <= n && n < len(l) }

func referenceUp(l []api.Spot, n int) []int {
	if !isIndex(l, n) {
		return nil
	}
	up := around(l, n)
	return up[:len(up)-1]
}

func referenceKids(l []api.Spot, n int) []int {
	var kids []int
	for i := range l {
		if isIndex(l, n) && l[i].Parent == n {
			kids = append(kids, i)
		}
	}
	return kids
}

func referenceWithin(l []api.Spot, a, b int) bool {
	return isIndex(l, a) && isIndex(l, b) && slices.Contains(around(l, a), b)
}

// referenceMeet tries each node.
func referenceMeet(l []api.Spot, nodes ...int) int {
	best := -1
	for m := range l {
		outside := func(n int) bool { return !isIndex(l, n) || n != m && !slices.Contains(around(l, n), m) }
		if !slices.ContainsFunc(nodes, outside) && (best < 0 || l[m].Depth > l[best].Depth) {
			best = m
		}
	}
	if len(nodes) == 0 {
		return -1
	}
	return best
}

// numbers are those from the first that is no index to the last, and some far away.
func numbers(l []api.Spot) []int {
	out := []int{api.MinInt, api.MinInt + 1, -1 << 32, -2, len(l) + 1, 1 << 31, 1 << 32, api.MaxInt}
	for n := -1; n <= len(l); n++ {
		out = append(out, n)
	}
	return out
}

// shown is all of a value as a text, in which a nil list and an empty one are the same.
func shown(v any) string { return fmt.Sprintf("%+v", v) }

// short is what a message shows of a text.
func short(s string) string { return s[:min(len(s), 600)] }

// parsed is the tree of a source without a fault.
func parsed(t *testing.T, s string) api.Chart {
	t.Helper()
	c, f := syntax.Parse(s)
	if f != (api.Fault{}) {
		t.Fatalf("Parse of %q: %v", short(s), f)
	}
	return c
}

// flat is the spots of a chart without an error.
func flat(t *testing.T, c api.Chart) []api.Spot {
	t.Helper()
	l, code := forest.Flat(c)
	if code != api.OK {
		t.Fatalf("Flat of %s: %d", short(shown(c)), code)
	}
	return l
}

func checkFlat(t *testing.T, c api.Chart, want []api.Spot) {
	t.Helper()
	if l, code := forest.Flat(c); !slices.Equal(l, want) || code != api.OK {
		t.Errorf("Flat of %s: %s, %d; want %s", short(shown(c)), shown(l), code, shown(want))
	}
}

func checkError(t *testing.T, c api.Chart, want api.Errno) {
	t.Helper()
	if l, code := forest.Flat(c); l != nil || code != want {
		t.Errorf("Flat of %s: %s, %d; want nothing and %d", short(shown(c)), short(shown(l)), code, want)
	}
}

func state(name string, kids ...api.Node) api.Node {
	return api.Node{Kind: api.NodeState, Name: name, Kids: kids}
}

func chart(kids ...api.Node) api.Chart { return api.Chart{Root: state("c", kids...)} }

// someNames are so few that nodes share them.
var someNames = []string{"a", "b", "c", "x1", "_", "inn", "State", "deep_", strings.Repeat("n", api.MaxName)}

// maker makes trees of nodes; it has so many left.
type maker struct {
	*rand.Rand
	left int
}

func (m *maker) name() string { return someNames[m.Intn(len(someNames))] }

// anyChart is a tree of a chart of so many nodes at most, with everything that a body can have.
func anyChart(r *rand.Rand, most int) api.Chart {
	m := maker{r, most - 1}
	c := api.Chart{Root: m.node(api.NodeState, 0)}
	for range r.Intn(3) {
		c.Vars = append(c.Vars, api.Var{Name: m.name(), Num: r.Intn(9) - 4})
	}
	return c
}

func (m *maker) node(kind, depth int) api.Node {
	n := api.Node{Kind: kind, Name: m.name(), At: m.Int()}
	if kind == api.NodeHistory || kind == api.NodeDeep {
		n.Default = m.name()
		return n
	}
	raise := []api.Action{{Kind: api.ActRaise, Name: "state"[:1+m.Intn(4)]}}
	switch m.Intn(6) {
	case 0:
		n.Initial, n.Enter = m.name(), raise
	case 1:
		n.Leave = raise
	case 2:
		n.Moves = []api.Move{{Kind: api.MoveOn, Event: m.name(), Actions: raise, Targets: []string{m.name()}}}
	}
	for m.left > 0 && depth < api.MaxDeep-1 && m.Intn(5) < 4 {
		m.left--
		n.Kids = append(n.Kids, m.node([]int{1, 1, 1, 2, 2, 3, 4}[m.Intn(7)], depth+1))
	}
	return n
}

// someCharts are trees of all sizes, with the extremes first.
func someCharts(many int) []api.Chart {
	deep, wide := state("a"), []api.Node{}
	for range api.MaxDeep - 2 {
		deep = state("a", deep)
	}
	for range api.MaxNodes - 1 {
		wide = append(wide, state("a"))
	}
	l := []api.Chart{chart(), chart(deep), chart(wide...), chart(state("a", wide[1:]...))}
	r := rand.New(rand.NewSource(41))
	for i := range many {
		l = append(l, anyChart(r, 1+i%api.MaxNodes))
	}
	return l
}
