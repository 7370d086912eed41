package printer_test

import (
	"math/rand"
	"slices"
	"strings"
	"testing"

	"pavane/api"
	"pavane/printer"
	"pavane/scan"
)

// wrongNames are no names, not even empty ones; some of them would make a source of another chart.
var wrongNames = []string{"1", "1a", "a b", " a", "a ", "a\n", "a;", "a,b", "a-b", "in(a)", "é", "a\x00", "//", "a//", "a { } state b", "a; initial b", "a -> b", "$", strings.Repeat("q", api.MaxName+1), strings.Repeat("q", 1<<20)}

// wrongExpressions are not right; the one that is nothing is left out.
func wrongExpressions() []api.Expr {
	a := read("a")
	deep, long := a, a
	for range api.MaxNest + 1 {
		deep = api.Expr{Kind: api.ExprOne, Op: api.OpNot, Subs: []api.Expr{deep}}
	}
	for range api.MaxSource / 4 {
		long = api.Expr{Kind: api.ExprBoth, Op: api.OpAdd, Subs: []api.Expr{long, a}}
	}
	return []api.Expr{
		deep, long, {Kind: api.ExprInt, Num: -1}, {Kind: api.ExprVar}, {Kind: api.ExprVar, Name: "set"}, {Kind: api.ExprVar, Name: "a", Num: 1},
		{Kind: api.ExprOne, Op: api.OpAdd, Subs: []api.Expr{a}}, {Kind: api.ExprBoth, Op: api.OpAdd, Subs: []api.Expr{a}}, {Kind: 6}, {Kind: -1},
		{Num: 1}, {Name: "a"}, {Op: api.OpAdd}, {Subs: []api.Expr{a}}, {Subs: []api.Expr{{}}},
	}
}

// placesOf are charts that hold a node, a move, or an act, at each kind of place; they are trees if it is right.
func placesOfNode(n api.Node) []api.Chart {
	l := []api.Chart{{Root: around(n)}, {Root: around(state("a"), n, state("b"))}, {Root: around(around(n))}, {Root: around(api.Node{Kind: api.NodeParallel, Name: "p", Kids: []api.Node{state("a"), n}})}}
	if n.Kind != api.NodeParallel && n.Kind != api.NodeHistory && n.Kind != api.NodeDeep {
		l = append(l, api.Chart{Root: n})
	}
	return l
}

func placesOfMove(m api.Move) []api.Chart {
	return append(placesOfNode(state("c", m)), placesOfNode(state("c", api.Move{Kind: api.MoveAlways}, m, m))...)
}

func placesOfAct(a api.Action) []api.Chart {
	raise := api.Action{Kind: api.ActRaise, Name: "e"}
	var l []api.Chart
	for _, acts := range [][]api.Action{{a}, {raise, a, raise}} {
		l = append(l, placesOfMove(api.Move{Kind: api.MoveAlways, Actions: acts})...)
		l = append(l, placesOfNode(api.Node{Kind: api.NodeState, Name: "s", Enter: acts})...)
		l = append(l, placesOfNode(api.Node{Kind: api.NodeState, Name: "s", Leave: acts})...)
	}
	return l
}

func checkNode(t *testing.T, n api.Node, right bool) {
	t.Helper()
	checkAll(t, placesOfNode(n), right)
}

func checkOneMove(t *testing.T, m api.Move, right bool) {
	t.Helper()
	checkAll(t, placesOfMove(m), right)
	line := ""
	if right {
		line = moveLine(m)
	}
	checkMove(t, m, line)
}

func checkAct(t *testing.T, a api.Action, right bool) {
	t.Helper()
	checkAll(t, placesOfAct(a), right)
	checkOneMove(t, api.Move{Kind: api.MoveOn, Event: "e", Actions: []api.Action{a}}, right)
}

func checkAll(t *testing.T, l []api.Chart, right bool) {
	t.Helper()
	for _, c := range l {
		if right {
			checkPrint(t, c, reference(c))
		} else {
			checkError(t, c, api.ErrTree)
		}
	}
}

// P8.1: names are names, in each place that has one; only an Initial may be missing.
func TestNames(t *testing.T) {
	names := slices.Concat(wrongNames, scan.Words(), []string{"", "a", "_", "sets", "Set", "x1", strings.Repeat("q", api.MaxName)})
	for _, s := range names {
		right := scan.Name(s)
		checkAll(t, []api.Chart{{Root: state(s)}, {Vars: []api.Var{{Name: s}}, Root: state("c")}, {Vars: []api.Var{{Name: "a"}, {Name: s}}, Root: state("c")}}, right)
		for kind := api.NodeState; kind <= api.NodeParallel; kind++ {
			checkNode(t, api.Node{Kind: kind, Name: s}, right)
			checkNode(t, api.Node{Kind: kind, Name: "n", Initial: s}, right || s == "")
			checkNode(t, api.Node{Kind: kind, Name: "n", Default: s}, s == "")
		}
		for kind := api.NodeHistory; kind <= api.NodeDeep; kind++ {
			checkNode(t, api.Node{Kind: kind, Name: s, Default: "d"}, right)
			checkNode(t, api.Node{Kind: kind, Name: "n", Default: s}, right)
			checkNode(t, api.Node{Kind: kind, Name: "n", Default: "d", Initial: s}, s == "")
		}
		checkOneMove(t, api.Move{Kind: api.MoveOn, Event: s}, right)
		checkOneMove(t, api.Move{Kind: api.MoveAlways, Event: s}, s == "")
		checkOneMove(t, api.Move{Kind: api.MoveAfter, Event: s}, s == "")
		checkOneMove(t, api.Move{Kind: api.MoveAlways, Targets: []string{s}}, right)
		checkOneMove(t, api.Move{Kind: api.MoveAlways, Targets: []string{"a", s, "b"}}, right)
		checkAct(t, api.Action{Kind: api.ActSet, Name: s, Value: read("1")}, right)
		checkAct(t, api.Action{Kind: api.ActRaise, Name: s}, right)
		checkAct(t, api.Action{Kind: api.ActEmit, Name: s, Value: read("1")}, right)
	}
}

// P8.1: kinds that are none, and the root's, which is a state.
func TestKinds(t *testing.T) {
	for _, kind := range []int{api.MinInt, -1, 0, 5, 6, 1<<32 + 1, api.MaxInt} {
		checkNode(t, api.Node{Kind: kind, Name: "n"}, false)
		checkNode(t, api.Node{Kind: kind, Name: "n", Default: "d"}, false)
	}
	for _, kind := range []int{api.MinInt, -1, 0, 4, 5, 1<<32 + 1, api.MaxInt} {
		checkOneMove(t, api.Move{Kind: kind}, false)
		checkOneMove(t, api.Move{Kind: kind, Event: "e"}, false)
		checkAct(t, api.Action{Kind: kind, Name: "a"}, false)
		checkAct(t, api.Action{Kind: kind, Name: "a", Value: read("1")}, false)
	}
	for kind := -1; kind < 6; kind++ {
		right := kind == api.NodeState
		checkAll(t, []api.Chart{{Root: api.Node{Kind: kind, Name: "c"}}, {Root: api.Node{Kind: kind, Name: "c", Kids: []api.Node{state("s")}}}}, right)
		checkError(t, api.Chart{Root: api.Node{Kind: kind, Name: "c", Default: "d"}}, api.ErrTree)
	}
	checkError(t, api.Chart{}, api.ErrTree)
	checkMove(t, api.Move{}, "")
}

// P8.1: a history has nothing of a body.
func TestHistories(t *testing.T) {
	raise := []api.Action{{Kind: api.ActRaise, Name: "e"}}
	for kind := api.NodeHistory; kind <= api.NodeDeep; kind++ {
		h := api.Node{Kind: kind, Name: "h", Default: "d"}
		checkNode(t, h, true)
		for _, spoil := range []func(n *api.Node){
			func(n *api.Node) { n.Initial = "a" },
			func(n *api.Node) { n.Enter = raise },
			func(n *api.Node) { n.Leave = raise },
			func(n *api.Node) { n.Moves = []api.Move{{Kind: api.MoveAlways}} },
			func(n *api.Node) { n.Kids = []api.Node{state("s")} },
			func(n *api.Node) { n.Default = "" },
		} {
			n := h
			spoil(&n)
			checkNode(t, n, false)
		}
	}
}

// P8.1: integers are not negative, but those of variables, which are greater than MinInt; a Wait is that of MoveAfter only.
func TestNumbers(t *testing.T) {
	for _, n := range []int{api.MinInt, api.MinInt + 1, -1, 0, 1, api.MaxTick, api.MaxTick + 1, api.MaxInt} {
		checkAll(t, []api.Chart{{Vars: []api.Var{{Name: "v", Num: n}}, Root: state("c")}, {Vars: []api.Var{{Name: "v"}, {Name: "v", Num: n}}, Root: state("c")}}, n > api.MinInt)
		checkOneMove(t, api.Move{Kind: api.MoveAfter, Wait: n}, n >= 0)
		checkOneMove(t, api.Move{Kind: api.MoveOn, Event: "e", Wait: n}, n == 0)
		checkOneMove(t, api.Move{Kind: api.MoveAlways, Wait: n}, n == 0)
		x := api.Expr{Kind: api.ExprInt, Num: n}
		checkAct(t, api.Action{Kind: api.ActSet, Name: "a", Value: x}, n >= 0)
		checkOneMove(t, api.Move{Kind: api.MoveAlways, Guarded: true, Guard: x}, n >= 0)
	}
}

// P8.1: expressions are right where there is one, and nothing where there is none, but for an offset.
func TestExpressions(t *testing.T) {
	check := func(x api.Expr, right, nothing bool) {
		t.Helper()
		for _, kind := range []int{api.MoveAlways, api.MoveAfter} {
			checkOneMove(t, api.Move{Kind: kind, Guarded: true, Guard: x}, right)
			checkOneMove(t, api.Move{Kind: kind, Guard: x}, nothing)
		}
		checkAct(t, api.Action{Kind: api.ActSet, Name: "a", Value: x}, right)
		checkAct(t, api.Action{Kind: api.ActEmit, Name: "a", Value: x}, right)
		checkAct(t, api.Action{Kind: api.ActRaise, Name: "a", Value: x}, nothing)
	}
	for _, s := range someExpressions {
		check(read(s), true, false)
	}
	for _, x := range wrongExpressions() {
		check(x, false, false)
	}
	check(api.Expr{}, false, true)
	check(api.Expr{At: 9}, false, true)
	check(api.Expr{At: -9, Subs: []api.Expr{}}, false, true)
}

// P8.1: no offset counts, not even one of what is not there.
func TestOffsetsAreIgnored(t *testing.T) {
	for _, source := range []string{exampleSource, allSource} {
		c := parsed(t, source)
		want := reference(c)
		r := rand.New(rand.NewSource(23))
		for _, at := range []func() int{func() int { return 0 }, func() int { return -1 }, func() int { return api.MaxInt }, func() int { return api.MinInt }, r.Int} {
			setAts(&c, at)
			checkPrint(t, c, want)
			for _, m := range partsOf(&c).moves {
				checkMove(t, *m, moveLine(*m))
			}
		}
	}
}

// P8.1: names that occur more than once, or that are nobody's, and waits that are too long are no matter of this layer.
func TestWhatIsNotChecked(t *testing.T) {
	c := parsed(t, "chart c{var c=1;var c=2;initial z;on c->z,z;after 9223372036854775807;state c{initial c;}state c{}history c->y;parallel c{initial q;}}")
	checkPrint(t, c, reference(c))
}

// spoil writes something else over a part of a chart, which may be right by chance.
func spoil(r *rand.Rand, c *api.Chart) {
	p := partsOf(c)
	text := slices.Concat(wrongNames[:len(wrongNames)-1], []string{"", "", "a", "set", "initial"})
	s := text[r.Intn(len(text))]
	n := []int{api.MinInt, -1, 0, 0, 1, 1, 2, 3, 4, 5, api.MaxInt}[r.Intn(11)]
	node := p.nodes[r.Intn(len(p.nodes))]
	raise := []api.Action{{Kind: api.ActRaise, Name: s}}
	changes := []func(){
		func() { node.Kind = n }, func() { node.Name = s }, func() { node.Initial = s }, func() { node.Default = s },
		func() { node.Enter = raise }, func() { node.Leave = raise }, func() { node.Moves = []api.Move{{Kind: n}} }, func() { node.Kids = []api.Node{{Kind: n, Name: s}} },
	}
	if len(p.vars) > 0 {
		v := p.vars[r.Intn(len(p.vars))]
		changes = append(changes, func() { v.Name = s }, func() { v.Num = n })
	}
	if len(p.moves) > 0 {
		m := p.moves[r.Intn(len(p.moves))]
		changes = append(changes, func() { m.Kind = n }, func() { m.Event = s }, func() { m.Wait = n }, func() { m.Guarded = !m.Guarded },
			func() { m.Guard = api.Expr{Kind: n, Name: s} }, func() { m.Actions = raise }, func() { m.Targets = append(m.Targets, s) })
	}
	if len(p.acts) > 0 {
		a := p.acts[r.Intn(len(p.acts))]
		changes = append(changes, func() { a.Kind = n }, func() { a.Name = s }, func() { a.Value = api.Expr{Kind: n, Num: n} })
	}
	if len(p.exprs) > 0 {
		x := p.exprs[r.Intn(len(p.exprs))]
		changes = append(changes, func() { x.Kind = n }, func() { x.Name = s }, func() { x.Num = n }, func() { x.Op = n }, func() { x.Subs = nil })
	}
	changes[r.Intn(len(changes))]()
}

// P8.1: a chart is a tree if, and only if, it is what its lines parse to.
func TestRandomTrees(t *testing.T) {
	r := rand.New(rand.NewSource(24))
	seen := map[bool]int{}
	for range 6000 {
		c := anyChart(r, r.Intn(3))
		if len(reference(c)) > api.MaxSource/2 {
			continue
		}
		spoil(r, &c)
		right := couldBe(c)
		seen[right]++
		checkAll(t, []api.Chart{c}, right)
		for _, m := range partsOf(&c).moves {
			want := ""
			if couldBe(alone(*m)) {
				want = moveLine(*m)
			}
			checkMove(t, *m, want)
		}
		if t.Failed() {
			return
		}
	}
	if seen[true] < 500 || seen[false] < 500 {
		t.Errorf("%d trees, %d others", seen[true], seen[false])
	}
}

// P8.1, W1: charts that are within themselves, or that hold far too much, end.
func TestMonsters(t *testing.T) {
	kids := make([]api.Node, 3)
	for i := range kids {
		kids[i] = around(kids...)
	}
	kids[0].Kids, kids[1].Kids, kids[2].Kids = kids, kids, kids
	chain := make([]api.Node, 1)
	chain[0] = api.Node{Kind: api.NodeState, Name: "s", Kids: chain}
	deep := state("s")
	for range 1 << 16 {
		deep = around(deep)
	}
	subs := make([]api.Expr, 2)
	subs[0], subs[1] = api.Expr{Kind: api.ExprBoth, Op: api.OpSub, Subs: subs}, read("1")
	round := api.Move{Kind: api.MoveAlways, Guarded: true, Guard: subs[0]}
	wide := many(1<<17, state("a"))
	for _, root := range []api.Node{kids[0], chain[0], deep, around(wide...), state("c", round), state("c", many(1<<17, round)...)} {
		checkErrorOnly(t, api.Chart{Root: root})
	}
	checkErrorOnly(t, api.Chart{Vars: make([]api.Var, 1<<17), Root: state("c")})
	acts := many(1<<17, api.Action{Kind: api.ActSet, Name: "a", Value: subs[0]})
	checkErrorOnly(t, api.Chart{Root: api.Node{Kind: api.NodeState, Name: "c", Enter: acts, Leave: acts}})
	round.Guard = api.Expr{Subs: subs}
	if s := printer.Move(round); s != "" {
		t.Errorf("Move of a move that holds itself: %q", s)
	}
}

// checkErrorOnly does not show the chart, which may have no end.
func checkErrorOnly(t *testing.T, c api.Chart) {
	t.Helper()
	s, code := printer.Print(c)
	if right := printer.Right(c); s != "" || code != api.ErrTree || right != api.ErrTree {
		t.Errorf("Print: %d bytes, %d; Right: %d; want ErrTree", len(s), code, right)
	}
}
