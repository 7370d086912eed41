package forest_test

import (
	"cmp"
	"math/rand"
	"slices"
	"strings"
	"testing"

	"pavane/api"
	"pavane/forest"
	"pavane/printer"
)

const exampleSource = "chart c { initial a; state a { initial b; state b { } state d { } } parallel p { state q { } state r { } } }"

// P9.1: the document's example.
func TestFlatExample(t *testing.T) {
	checkFlat(t, parsed(t, exampleSource), []api.Spot{
		{Kind: api.NodeState, Name: "c", Parent: -1, Depth: 0, End: 7},
		{Kind: api.NodeState, Name: "a", Parent: 0, Depth: 1, End: 4},
		{Kind: api.NodeState, Name: "b", Parent: 1, Depth: 2, End: 3},
		{Kind: api.NodeState, Name: "d", Parent: 1, Depth: 2, End: 4},
		{Kind: api.NodeParallel, Name: "p", Parent: 0, Depth: 1, End: 7},
		{Kind: api.NodeState, Name: "q", Parent: 4, Depth: 2, End: 6},
		{Kind: api.NodeState, Name: "r", Parent: 4, Depth: 2, End: 7},
	})
}

// P9.1: a root alone.
func TestFlatRoot(t *testing.T) {
	root := []api.Spot{{Kind: api.NodeState, Name: "alone", Parent: -1, Depth: 0, End: 1}}
	checkFlat(t, parsed(t, "chart alone { }"), root)
	checkFlat(t, parsed(t, "chart alone { var a = 1; initial x; enter { raise b; } on go -> h, h; }"), root)
}

// P9.1: each kind of node has its spot, histories too, and nodes may share a name.
func TestFlatKinds(t *testing.T) {
	checkFlat(t, parsed(t, "chart a { deep a -> b; parallel p { history h -> a; state a { parallel a { } } deep d -> a; } history g -> x; }"), []api.Spot{
		{Kind: api.NodeState, Name: "a", Parent: -1, Depth: 0, End: 8},
		{Kind: api.NodeDeep, Name: "a", Parent: 0, Depth: 1, End: 2},
		{Kind: api.NodeParallel, Name: "p", Parent: 0, Depth: 1, End: 7},
		{Kind: api.NodeHistory, Name: "h", Parent: 2, Depth: 2, End: 4},
		{Kind: api.NodeState, Name: "a", Parent: 2, Depth: 2, End: 6},
		{Kind: api.NodeParallel, Name: "a", Parent: 4, Depth: 3, End: 6},
		{Kind: api.NodeDeep, Name: "d", Parent: 2, Depth: 2, End: 7},
		{Kind: api.NodeHistory, Name: "g", Parent: 0, Depth: 1, End: 8},
	})
}

// P9.1: the spots are those that the formatted lines show.
func TestFlatOfTrees(t *testing.T) {
	for _, c := range someCharts(2000) {
		if printer.Right(c) == api.OK {
			checkFlat(t, c, reference(t, c))
		}
	}
}

// P9.1: the order is that of the names in the source, by their offsets.
func TestFlatOrder(t *testing.T) {
	for _, c := range someCharts(500) {
		s, code := printer.Print(c)
		if code != api.OK {
			continue
		}
		c = parsed(t, s)
		var nodes []api.Node
		var gather func(n api.Node)
		gather = func(n api.Node) {
			for _, kid := range slices.Backward(n.Kids) {
				gather(kid)
			}
			nodes = append(nodes, n)
		}
		gather(c.Root)
		slices.SortFunc(nodes, func(a, b api.Node) int { return cmp.Compare(a.At, b.At) })
		l := flat(t, c)
		if len(l) != len(nodes) {
			t.Fatalf("%q has %d nodes; want %d", s, len(l), len(nodes))
		}
		for i, n := range nodes {
			if l[i].Name != n.Name || l[i].Kind != n.Kind {
				t.Fatalf("%q has at %d %v; want %s", s, i, l[i], n.Name)
			}
		}
	}
}

// P9.1: offsets count for nothing.
func TestFlatOfOffsets(t *testing.T) {
	c := parsed(t, exampleSource)
	want := flat(t, c)
	c.Root.At, c.Root.Kids[0].At, c.Root.Kids[1].Kids[1].At = 1<<40, api.MinInt, -1
	checkFlat(t, c, want)
}

// P9.1: 64 nodes and 12 nested in each other are a list; one more is none.
func TestFlatLimits(t *testing.T) {
	wide := slices.Repeat([]api.Node{state("a")}, api.MaxNodes)
	checkFlat(t, chart(wide[1:]...), reference(t, chart(wide[1:]...)))
	checkError(t, chart(wide...), api.ErrTree)
	deep := state("a")
	for range api.MaxDeep - 2 {
		deep = state("a", deep)
	}
	checkFlat(t, chart(deep), reference(t, chart(deep)))
	checkFlat(t, chart(deep, deep), reference(t, chart(deep, deep)))
	checkError(t, chart(state("a", deep)), api.ErrTree)
	if l := flat(t, chart(deep)); len(l) != 12 || l[11].Depth != 11 || l[0].End != 12 {
		t.Errorf("the deepest chart has %v", l)
	}
}

// P9.1: a chart that is no tree is ErrTree.
func TestFlatOfNoTree(t *testing.T) {
	checkError(t, api.Chart{}, api.ErrTree)
	for _, spoil := range []func(c *api.Chart){
		func(c *api.Chart) { c.Root.Kind = api.NodeParallel },
		func(c *api.Chart) { c.Root.Name = "" },
		func(c *api.Chart) { c.Root.Kids[1].Name = "state" },
		func(c *api.Chart) { c.Root.Kids[1].Kids[1].Kind = 5 },
		func(c *api.Chart) { c.Root.Kids[0].Kids[1].Kind = api.NodeDeep },
		func(c *api.Chart) { c.Root.Kids[0].Default = "b" },
		func(c *api.Chart) { c.Root.Moves = []api.Move{{}} },
		func(c *api.Chart) { c.Root.Leave = []api.Action{{}} },
		func(c *api.Chart) { c.Vars = []api.Var{{Name: "v", Num: api.MinInt}} },
		func(c *api.Chart) { c.Vars = make([]api.Var, api.MaxVars+1) },
	} {
		c := parsed(t, exampleSource)
		spoil(&c)
		checkError(t, c, api.ErrTree)
	}
}

// P9.1: a chart whose formatted lines are as long as a source has a list; one that is a byte longer is ErrLong.
func TestFlatOfLongChart(t *testing.T) {
	c := parsed(t, exampleSource)
	c.Root.Moves = []api.Move{{Kind: api.MoveAlways, Targets: []string{"a"}}}
	s, _ := printer.Print(c)
	m := &c.Root.Moves[0]
	rest := api.MaxSource - len(s)
	for ; rest > api.MaxName+2; rest -= 3 {
		m.Targets = append(m.Targets, "b")
	}
	m.Targets = append(m.Targets, strings.Repeat("c", rest-2))
	checkFlat(t, c, reference(t, c))
	if s, _ := printer.Print(c); len(s) != api.MaxSource {
		t.Errorf("the chart has %d bytes", len(s))
	}
	c.Root.Name += "c"
	checkError(t, c, api.ErrLong)
	c.Root.Kids[0].Name = "1"
	checkError(t, c, api.ErrTree)
}

// P9.1, W1: charts far beyond the limits are an error too.
func TestFlatOfHugeChart(t *testing.T) {
	c := chart(slices.Repeat([]api.Node{state("a")}, 1<<20)...)
	checkOnlyError(t, c, api.ErrTree)
	deep := state("a")
	for range 1 << 16 {
		deep = state("a", deep)
	}
	checkOnlyError(t, chart(deep), api.ErrTree)
	kids := make([]api.Node, 1)
	kids[0] = state("a", kids...)
	checkOnlyError(t, chart(kids...), api.ErrTree)
	checkOnlyError(t, api.Chart{Root: state(strings.Repeat("a", 1<<20))}, api.ErrTree)
}

// checkOnlyError does not show the chart, which may have no end.
func checkOnlyError(t *testing.T, c api.Chart, want api.Errno) {
	t.Helper()
	if l, code := forest.Flat(c); l != nil || code != want {
		t.Errorf("Flat: %d spots, %d; want nothing and %d", len(l), code, want)
	}
}

// W2: the same chart has the same list, whatever was asked before.
func TestFlatAgain(t *testing.T) {
	r := rand.New(rand.NewSource(42))
	for _, c := range someCharts(100) {
		first, code := forest.Flat(c)
		forest.Flat(anyChart(r, 20))
		forest.Flat(api.Chart{})
		if again, code2 := forest.Flat(c); !slices.Equal(again, first) || code2 != code {
			t.Fatalf("%v, %d, and then %v, %d", first, code, again, code2)
		}
	}
}
