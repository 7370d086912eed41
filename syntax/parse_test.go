package syntax_test

import (
	"math/rand"
	"strings"
	"testing"

	"pavane/api"
	"pavane/expr"
)

// state is a node without offset.
func state(name string, kids ...api.Node) api.Node {
	return api.Node{Kind: api.NodeState, Name: name, Kids: kids}
}

// value is an expression without offsets.
func value(s string) api.Expr {
	x, _ := expr.Read(s)
	return placelessExpr(x)
}

func set(name, s string) api.Action {
	return api.Action{Kind: api.ActSet, Name: name, Value: value(s)}
}

func emit(name, s string) api.Action {
	return api.Action{Kind: api.ActEmit, Name: name, Value: value(s)}
}

func raise(name string) api.Action { return api.Action{Kind: api.ActRaise, Name: name} }

// checkParse holds a tree but for its offsets.
func checkParse(t *testing.T, s string, want api.Chart) {
	t.Helper()
	if c := placeless(parsed(t, s)); shown(c) != shown(want) {
		t.Errorf("Parse(%q): %s; want %s", short(s), short(shown(c)), short(shown(want)))
	}
}

// checkMove holds the only move of a chart.
func checkMove(t *testing.T, s string, want api.Move) {
	t.Helper()
	checkParse(t, "chart c { "+s+" }", api.Chart{Root: api.Node{Kind: api.NodeState, Name: "c", Moves: []api.Move{want}}})
}

// P7.1: the document's examples.
func TestParseExamples(t *testing.T) {
	a := state("a")
	a.Moves = []api.Move{{Kind: api.MoveOn, Event: "go", Guarded: true, Guard: value("n < 0"), Actions: []api.Action{set("n", "n + 1")}, Targets: []string{"b"}}}
	root := state("c", a, state("b"))
	root.Initial = "a"
	checkParse(t, "chart c { var n = -2; initial a; state a { on go [n < 0] { set n = n + 1; } -> b; } state b { } }", api.Chart{Vars: []api.Var{{Name: "n", Num: -2}}, Root: root})
	a.Moves = []api.Move{{Kind: api.MoveAfter, Wait: 3, Targets: []string{"b", "d"}}}
	checkParse(t, "chart c { parallel p { state a { after 3 -> b, d; } deep h -> a; } }", api.Chart{Root: state("c", api.Node{
		Kind: api.NodeParallel, Name: "p", Kids: []api.Node{a, {Kind: api.NodeDeep, Name: "h", Default: "a"}},
	})})
}

// P7.1: each part's offset, by hand.
func TestParseOffsets(t *testing.T) {
	//          0         1         2         3         4         5         6
	//          0123456789012345678901234567890123456789012345678901234567890123456789
	checkTree(t, " chart c{var n =-2 ;enter{set n=(n)+1;}on go[!n]{raise e;}->b,c;}", api.Chart{
		Vars: []api.Var{{Name: "n", Num: -2, At: 13}},
		Root: api.Node{
			Kind: api.NodeState, Name: "c", At: 7,
			Enter: []api.Action{{Kind: api.ActSet, Name: "n", At: 26, Value: api.Expr{Kind: api.ExprBoth, Op: api.OpAdd, At: 33, Subs: []api.Expr{{Kind: api.ExprVar, Name: "n", At: 33}, {Kind: api.ExprInt, Num: 1, At: 36}}}}},
			Moves: []api.Move{{
				Kind: api.MoveOn, Event: "go", At: 39, Guarded: true,
				Guard:   api.Expr{Kind: api.ExprOne, Op: api.OpNot, At: 45, Subs: []api.Expr{{Kind: api.ExprVar, Name: "n", At: 46}}},
				Actions: []api.Action{{Kind: api.ActRaise, Name: "e", At: 49}}, Targets: []string{"b", "c"},
			}},
		},
	})
	//          0         1         2         3         4         5         6
	//          0123456789012345678901234567890123456789012345678901234567890123456789
	checkTree(t, "chart\nc { leave { emit e = 7; } state a { always; parallel\tb { after 0;\n}deep d->a;} history h -> h; }", api.Chart{
		Root: api.Node{
			Kind: api.NodeState, Name: "c", At: 6,
			Leave: []api.Action{{Kind: api.ActEmit, Name: "e", At: 18, Value: api.Expr{Kind: api.ExprInt, Num: 7, At: 27}}},
			Kids: []api.Node{
				{Kind: api.NodeState, Name: "a", At: 38, Moves: []api.Move{{Kind: api.MoveAlways, At: 42}}, Kids: []api.Node{
					{Kind: api.NodeParallel, Name: "b", At: 59, Moves: []api.Move{{Kind: api.MoveAfter, At: 63}}},
					{Kind: api.NodeDeep, Name: "d", Default: "a", At: 78},
				}},
				{Kind: api.NodeHistory, Name: "h", Default: "h", At: 93},
			},
		},
	})
}

// P7.1: variables, with each number that they may have.
func TestParseVars(t *testing.T) {
	checkParse(t, "chart c { }", api.Chart{Root: state("c")})
	for text, n := range map[string]int{"0": 0, "-0": 0, "1": 1, "-1": -1, "- 1": -1, "-\n// so many\n20": -20, "9223372036854775807": api.MaxInt, "-9223372036854775807": -api.MaxInt} {
		checkParse(t, "chart c { var n = "+text+"; }", api.Chart{Vars: []api.Var{{Name: "n", Num: n}}, Root: state("c")})
		checkParse(t, "chart c{var a=5;var n="+text+";var n=6;initial n;}", api.Chart{
			Vars: []api.Var{{Name: "a", Num: 5}, {Name: "n", Num: n}, {Name: "n", Num: 6}}, Root: api.Node{Kind: api.NodeState, Name: "c", Initial: "n"},
		})
	}
}

// P7.1: names that are as long as may be, that begin like keywords, or that stand for several things at once.
func TestParseNames(t *testing.T) {
	for _, s := range []string{"c", "_", "_0", "States", "state_", "inn", "On", "x9", strings.Repeat("n", api.MaxName)} {
		root := state(s, state(s), api.Node{Kind: api.NodeHistory, Name: s, Default: s}, api.Node{Kind: api.NodeParallel, Name: s})
		root.Initial = s
		root.Enter = []api.Action{set(s, s), raise(s), emit(s, "in("+s+")")}
		root.Moves = []api.Move{{Kind: api.MoveOn, Event: s, Guarded: true, Guard: value(s), Targets: []string{s, s}}}
		checkParse(t, strings.ReplaceAll("chart ? { var ? = 1; initial ?; enter { set ? = ?; raise ?; emit ? = in(?); } on ? [?] -> ?, ?; state ? { } history ? -> ?; parallel ? { } }", "?", s),
			api.Chart{Vars: []api.Var{{Name: s, Num: 1}}, Root: root})
	}
}

// P7.1: the clauses of a body in each order, with moves between them; the moves keep theirs.
func TestParseClauses(t *testing.T) {
	l := []string{"initial a;", "enter { raise e; }", "leave { raise l; raise m; }", "on x; on y;"}
	want := api.Node{Kind: api.NodeState, Name: "c", Initial: "a", Enter: []api.Action{raise("e")}, Leave: []api.Action{raise("l"), raise("m")}, Moves: []api.Move{{Kind: api.MoveOn, Event: "x"}, {Kind: api.MoveOn, Event: "y"}}}
	for i := range l {
		for j := range l {
			for k := range l {
				if i == j || j == k || i == k {
					continue
				}
				body := l[i] + l[j] + l[k] + l[6-i-j-k]
				checkParse(t, "chart c {"+body+"}", api.Chart{Root: want})
				inner := want
				inner.Name = "s"
				checkParse(t, "chart c { state s {"+body+"} }", api.Chart{Root: state("c", inner)})
				inner.Kind = api.NodeParallel
				checkParse(t, "chart c { state a { } parallel s {"+body+"} state b { } }", api.Chart{Root: state("c", state("a"), inner, state("b"))})
			}
		}
	}
	checkParse(t, "chart c { on x; leave { raise l; } on y; always; }", api.Chart{Root: api.Node{
		Kind: api.NodeState, Name: "c", Leave: []api.Action{raise("l")}, Moves: []api.Move{{Kind: api.MoveOn, Event: "x"}, {Kind: api.MoveOn, Event: "y"}, {Kind: api.MoveAlways}},
	}})
}

// P7.1: each node has clauses of its own, so that each may have one of each kind.
func TestParseClausesOfEach(t *testing.T) {
	body := "initial a; enter { raise e; } leave { raise l; } "
	node := func(kind int, name string, kids ...api.Node) api.Node {
		return api.Node{Kind: kind, Name: name, Initial: "a", Enter: []api.Action{raise("e")}, Leave: []api.Action{raise("l")}, Kids: kids}
	}
	checkParse(t, "chart c {"+body+"state a {"+body+"state b {"+body+"} parallel d {"+body+"} } state e {"+body+"} }", api.Chart{
		Root: node(1, "c", node(1, "a", node(1, "b"), node(2, "d")), node(1, "e")),
	})
}

// P7.1: nodes of all kinds, nested in the order of the source.
func TestParseNodes(t *testing.T) {
	checkParse(t, "chart c { deep d -> x; parallel p { history h -> y; state a { } parallel q { state b { deep e -> e; } } } state f { } state f { } }", api.Chart{Root: state("c",
		api.Node{Kind: api.NodeDeep, Name: "d", Default: "x"},
		api.Node{Kind: api.NodeParallel, Name: "p", Kids: []api.Node{
			{Kind: api.NodeHistory, Name: "h", Default: "y"},
			state("a"),
			{Kind: api.NodeParallel, Name: "q", Kids: []api.Node{state("b", api.Node{Kind: api.NodeDeep, Name: "e", Default: "e"})}},
		}},
		state("f"), state("f"),
	)})
}

// P7.1: moves of each kind, with and without each of their parts.
func TestParseMoves(t *testing.T) {
	for head, m := range map[string]api.Move{
		"on go": {Kind: api.MoveOn, Event: "go"}, "always": {Kind: api.MoveAlways}, "after 0": {Kind: api.MoveAfter}, "after 12": {Kind: api.MoveAfter, Wait: 12}, "after 9223372036854775807": {Kind: api.MoveAfter, Wait: api.MaxInt},
	} {
		for guard, x := range map[string]string{"": "", " [n < 0]": "n < 0", "[1]": "1", " [ (in(a)) ]": "in(a)"} {
			m.Guarded, m.Guard = guard != "", api.Expr{}
			if m.Guarded {
				m.Guard = value(x)
			}
			for block, acts := range map[string][]api.Action{"": nil, " { }": nil, " { raise e; }": {raise("e")}, "{set n=n-1;emit m=2;set n=0;}": {set("n", "n - 1"), emit("m", "2"), set("n", "0")}} {
				for arrow, targets := range map[string][]string{"": nil, " -> a": {"a"}, "->a,b": {"a", "b"}, " -> a , a , c ": {"a", "a", "c"}} {
					m.Actions, m.Targets = acts, targets
					checkMove(t, head+guard+block+arrow+";", m)
				}
			}
		}
	}
}

// P7.1: acts of each kind, and expressions of all kinds as their values.
func TestParseActs(t *testing.T) {
	for _, s := range append(someExpressions, "(a)", "((1))", "a == b != (c == 1)", strings.Repeat("(", 20)+"a"+strings.Repeat(")", 20)) {
		checkParse(t, "chart c { enter { set n = "+s+"; raise e; emit n = "+s+"; } leave { emit m="+s+";set m="+s+"; } always ["+s+"] { raise e; raise f; }; }", api.Chart{Root: api.Node{
			Kind: api.NodeState, Name: "c",
			Enter: []api.Action{set("n", s), raise("e"), emit("n", s)}, Leave: []api.Action{emit("m", s), set("m", s)},
			Moves: []api.Move{{Kind: api.MoveAlways, Guarded: true, Guard: value(s), Actions: []api.Action{raise("e"), raise("f")}}},
		}})
	}
}

// P7.1: the guard that is 0 is one, too.
func TestParseGuardOfZero(t *testing.T) {
	checkMove(t, "always [0];", api.Move{Kind: api.MoveAlways, Guarded: true, Guard: api.Expr{Kind: api.ExprInt}})
}

// P7.1: a chart in a source of the greatest length.
func TestParseLongest(t *testing.T) {
	s := "chart c { state a { } }"
	for _, n := range []int{1, 500, api.MaxSource - len(s)} {
		checkParse(t, s+strings.Repeat(" ", n), api.Chart{Root: state("c", state("a"))})
		checkParse(t, strings.Repeat("\n", n)+s, api.Chart{Root: state("c", state("a"))})
	}
	checkFault(t, s+strings.Repeat(" ", api.MaxSource-len(s)+1), api.Fault{Code: api.ErrLong, At: -1})
	long := "chart c { enter { set n = " + strings.Repeat("-1+", 5000) + "1; } }"
	if x := parsed(t, long).Root.Enter[0].Value; shown(placelessExpr(x)) != shown(value(strings.Repeat("-1+", 5000)+"1")) {
		t.Error("a long expression is another one than expr.Read has")
	}
}

// P7.1: random trees, with offsets, from sources that the writer writes.
func TestParseRandomTrees(t *testing.T) {
	r := rand.New(rand.NewSource(7))
	for range 1500 {
		s, want := written(r, anyChart(r, r.Intn(5)))
		if len(s) > api.MaxSource {
			continue
		}
		checkTree(t, s, want)
		if f := referenceFault(s); f != (api.Fault{}) {
			t.Errorf("the reference has the fault %v of %q", f, short(s))
		}
		if t.Failed() {
			return
		}
	}
}
