package printer_test

import (
	"math/rand"
	"strings"
	"testing"

	"pavane/api"
	"pavane/printer"
)

// checkCount holds what a chart has no more of than most.
func checkCount(t *testing.T, most int, chart func(n int) api.Chart) {
	t.Helper()
	for _, n := range []int{0, 1, most - 1, most} {
		c := chart(n)
		checkPrint(t, c, reference(c))
	}
	for _, n := range []int{most + 1, most + 2, 2 * most, 1000} {
		checkError(t, chart(n), api.ErrTree)
	}
}

// P8.1: 16 variables.
func TestVariables(t *testing.T) {
	checkCount(t, api.MaxVars, func(n int) api.Chart {
		return api.Chart{Vars: many(n, api.Var{Name: "v", Num: -1}), Root: state("c")}
	})
}

// P8.1: 64 nodes with the root, of whatever kind, wherever they are.
func TestNodes(t *testing.T) {
	history := api.Node{Kind: api.NodeHistory, Name: "h", Default: "d"}
	deep := api.Node{Kind: api.NodeDeep, Name: "h", Default: "d"}
	for _, kid := range []api.Node{state("s"), {Kind: api.NodeParallel, Name: "p"}, history, deep} {
		checkCount(t, api.MaxNodes-1, func(n int) api.Chart { return api.Chart{Root: around(many(n, kid)...)} })
		checkCount(t, api.MaxNodes-3, func(n int) api.Chart {
			return api.Chart{Root: around(around(many(n/2, kid)...), around(many(n-n/2, kid)...))}
		})
		checkCount(t, (api.MaxNodes-1)/3, func(n int) api.Chart { return api.Chart{Root: around(many(n, around(kid, kid))...)} })
	}
}

// P8.1: 12 nodes within each other, of whatever kind the innermost one is.
func TestNesting(t *testing.T) {
	history := api.Node{Kind: api.NodeHistory, Name: "h", Default: "d"}
	deep := api.Node{Kind: api.NodeDeep, Name: "h", Default: "d"}
	for _, inner := range []api.Node{state("s"), {Kind: api.NodeParallel, Name: "p"}, history, deep} {
		checkCount(t, api.MaxDeep-1, func(n int) api.Chart {
			if n == 0 {
				return api.Chart{Root: state("c")}
			}
			kid := inner
			for i := range n - 1 {
				kid = api.Node{Kind: api.NodeState + i%2, Name: "s", Kids: []api.Node{kid}}
			}
			return api.Chart{Root: around(kid)}
		})
		nest := inner
		for range api.MaxDeep - 2 {
			nest = around(nest)
		}
		c := api.Chart{Root: around(nest, nest, around(), nest)} // levels that have ended do not count
		checkPrint(t, c, reference(c))
		checkError(t, api.Chart{Root: around(nest, around(), around(nest))}, api.ErrTree)
	}
}

// P8.1: 200 moves in the whole chart.
func TestMoves(t *testing.T) {
	for _, m := range []api.Move{{Kind: api.MoveOn, Event: "e"}, {Kind: api.MoveAlways}, {Kind: api.MoveAfter, Wait: 1}} {
		checkCount(t, api.MaxMoves, func(n int) api.Chart { return api.Chart{Root: state("c", many(n, m)...)} })
		checkCount(t, api.MaxMoves/4, func(n int) api.Chart {
			l := many(n, m)
			root := around(state("a", l...), around(state("b", l...)), api.Node{Kind: api.NodeParallel, Name: "p", Moves: l})
			root.Moves = l
			return api.Chart{Root: root}
		})
	}
}

// P8.1: 400 acts in the whole chart, wherever they are.
func TestActs(t *testing.T) {
	raise := api.Action{Kind: api.ActRaise, Name: "e"}
	for _, a := range []api.Action{raise, {Kind: api.ActSet, Name: "a", Value: read("1")}, {Kind: api.ActEmit, Name: "a", Value: read("1")}} {
		checkCount(t, api.MaxActs, func(n int) api.Chart {
			return api.Chart{Root: api.Node{Kind: api.NodeState, Name: "c", Enter: many(n, a)}}
		})
		checkCount(t, api.MaxActs, func(n int) api.Chart {
			return api.Chart{Root: api.Node{Kind: api.NodeState, Name: "c", Leave: many(n, a)}}
		})
		checkCount(t, api.MaxActs, func(n int) api.Chart {
			return alone(api.Move{Kind: api.MoveAlways, Actions: many(n, a)})
		})
		checkCount(t, api.MaxActs/5, func(n int) api.Chart {
			l := many(n, a)
			kid := api.Node{Kind: api.NodeParallel, Name: "p", Enter: l, Leave: l, Moves: []api.Move{{Kind: api.MoveAlways, Actions: l}}}
			return api.Chart{Root: api.Node{Kind: api.NodeState, Name: "c", Enter: l, Kids: []api.Node{around(kid)}, Moves: []api.Move{{Kind: api.MoveAlways, Actions: l}}}}
		})
	}
	checkMove(t, api.Move{Kind: api.MoveAlways, Actions: many(400, raise)}, "always { "+strings.Repeat("raise e; ", 400)+"};")
	checkMove(t, api.Move{Kind: api.MoveAlways, Actions: many(401, raise)}, "")
}

// P8.1: all limits at once.
func TestAllLimits(t *testing.T) {
	l := many(20, api.Node{Kind: api.NodeHistory, Name: "h", Default: "d"})
	kid := api.Node{Kind: api.NodeState, Name: "s", Enter: many(400, api.Action{Kind: api.ActRaise, Name: "e"}), Moves: many(200, api.Move{Kind: api.MoveAlways}), Kids: l}
	for range api.MaxDeep - 3 {
		kid = api.Node{Kind: api.NodeParallel, Name: "p", Kids: []api.Node{kid}}
	}
	c := api.Chart{Vars: many(16, api.Var{Name: "v"}), Root: around(append(many(api.MaxNodes-20-(api.MaxDeep-3)-2, state("a")), kid)...)}
	checkPrint(t, c, reference(c))
	for _, add := range []func(c *api.Chart){
		func(c *api.Chart) { c.Vars = append(c.Vars, api.Var{Name: "v"}) },
		func(c *api.Chart) { c.Root.Kids = append(c.Root.Kids, state("s")) },
		func(c *api.Chart) { c.Root.Moves = []api.Move{{Kind: api.MoveAlways}} },
		func(c *api.Chart) { c.Root.Leave = []api.Action{{Kind: api.ActRaise, Name: "e"}} },
	} {
		d := copied(c)
		add(&d)
		checkError(t, d, api.ErrTree)
	}
}

// sized is a move whose line has so many bytes: at least 20.
func sized(size int) api.Move {
	m := api.Move{Kind: api.MoveAlways, Targets: []string{"a"}}
	size -= len("always -> a;")
	for ; size > 26; size -= 3 {
		m.Targets = append(m.Targets, "b")
	}
	m.Targets = append(m.Targets, strings.Repeat("c", size-2))
	return m
}

// P8.1: the lines are as long as a source, and a byte longer. A move is put in a chart of 15 bytes.
func TestLength(t *testing.T) {
	for _, size := range []int{40, 41, 42, 43, 1000, api.MaxSource - 2, api.MaxSource - 1, api.MaxSource} {
		m := sized(size - 15)
		checkPrint(t, alone(m), reference(alone(m)))
		checkMove(t, m, moveLine(m))
		if len(reference(alone(m))) != size || len(printer.Move(m)) != size-15 {
			t.Errorf("a chart of %d bytes has %d, its move %d", size, len(reference(alone(m))), len(printer.Move(m)))
		}
	}
	for _, size := range []int{api.MaxSource + 1, api.MaxSource + 2, api.MaxSource + 15, api.MaxSource + 16, 2 * api.MaxSource, 1 << 20} {
		m := sized(size - 15)
		if len(reference(alone(m))) != size {
			t.Errorf("a chart of %d bytes has %d", size, len(reference(alone(m))))
		}
		checkError(t, alone(m), api.ErrLong)
		checkMove(t, m, "")
	}
}

// P8.1: so it is wherever the bytes are: spaces of the indentation, ends of lines and the last brace count.
func TestLengthOfCharts(t *testing.T) {
	r := rand.New(rand.NewSource(25))
	for range 60 {
		c := anyChart(r, r.Intn(4))
		partsOf(&c).nodes[0].Moves = nil
		rest := api.MaxSource - len(reference(c)) - 3
		if rest < 60 {
			continue
		}
		c.Root.Moves = []api.Move{sized(rest)}
		checkPrint(t, c, reference(c))
		if n := len(reference(c)); n != api.MaxSource {
			t.Errorf("the chart has %d bytes", n)
		}
		c.Root.Moves = []api.Move{sized(rest + 1)}
		checkError(t, c, api.ErrLong)
		c.Root.Moves = []api.Move{sized(rest - 1)}
		checkPrint(t, c, reference(c))
	}
}

// P8.1: a chart that is no tree is ErrTree, however long its lines would be and wherever the wrong part is.
func TestTreeAheadOfLength(t *testing.T) {
	long := sized(1 << 18)
	checkError(t, alone(long), api.ErrLong)
	for _, spoil := range []func(c *api.Chart){
		func(c *api.Chart) { c.Root.Moves[0].Targets[len(long.Targets)-1] = "" },
		func(c *api.Chart) { c.Root.Moves[0].Targets[0] = "on" },
		func(c *api.Chart) { c.Root.Moves[0].Wait = 1 },
		func(c *api.Chart) { c.Root.Moves = append(c.Root.Moves, api.Move{}) },
		func(c *api.Chart) { c.Root.Kids = []api.Node{{}} },
		func(c *api.Chart) { c.Root.Kids = many(64, state("s")) },
		func(c *api.Chart) { c.Vars = many(17, api.Var{Name: "v"}) },
		func(c *api.Chart) { c.Vars = []api.Var{{Name: "v", Num: api.MinInt}} },
		func(c *api.Chart) { c.Root.Default = "d" },
	} {
		c := copied(alone(long))
		spoil(&c)
		checkError(t, c, api.ErrTree)
	}
}

// P8.1: an expression that is longer than a source is not right, so its chart is no tree; one that is as long is right, and its chart too long.
func TestLongExpressions(t *testing.T) {
	x := read("a")
	for range api.MaxSource/4 - 1 {
		x = api.Expr{Kind: api.ExprBoth, Op: api.OpAdd, Subs: []api.Expr{x, read("a")}}
	}
	for _, last := range []string{"a", "abc", "abcd", "abcde", "abcdef"} { // the text of x has three bytes less than a source
		y := copiedExpr(x)
		y.Subs[1].Name = last
		want := api.ErrLong
		if len(last) > 4 {
			want = api.ErrTree
		}
		m := api.Move{Kind: api.MoveAlways, Guarded: true, Guard: y}
		checkError(t, alone(m), want)
		checkMove(t, m, "")
		set := api.Action{Kind: api.ActSet, Name: "a", Value: y}
		checkError(t, api.Chart{Root: api.Node{Kind: api.NodeState, Name: "c", Enter: []api.Action{set}}}, want)
	}
	set := api.Action{Kind: api.ActEmit, Name: "a", Value: x}
	checkError(t, api.Chart{Root: api.Node{Kind: api.NodeState, Name: "c", Leave: many(api.MaxActs, set)}}, api.ErrLong)
}

// P8.1, W1: as many names as there may be in all.
func TestManyTargets(t *testing.T) {
	m := api.Move{Kind: api.MoveAlways, Targets: many(1<<20, "target")}
	c := alone(m)
	c.Root.Moves = many(20, m)
	if s, code := printer.Print(c); s != "" || code != api.ErrLong {
		t.Errorf("Print: %d bytes, %d", len(s), code)
	}
	m.Targets[1<<20-1] = "in"
	if s, code := printer.Print(c); s != "" || code != api.ErrTree {
		t.Errorf("Print: %d bytes, %d", len(s), code)
	}
}
