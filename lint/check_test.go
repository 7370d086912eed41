package lint_test

import (
	"fmt"
	"math/rand"
	"slices"
	"strings"
	"testing"

	"pavane/api"
	"pavane/lint"
)

// P10.1: the document's examples.
func TestCheckExamples(t *testing.T) {
	checkFault(t, "chart ^c { state a { } }", api.ErrInitial)
	checkFault(t, "chart c { initial a; state a { ^on x -> c; } }", api.ErrTarget)
	checkFault(t, "chart c { initial p; parallel p { state a { } state b { } } state d { on x -> a, b; always [^q] -> a; } }", api.ErrName)
	checkFault(t, "chart c { initial a; state a { ^on x -> a, b; } state b { } }", api.ErrTarget)
}

// P10.1: what has no error is sound.
func TestSoundCharts(t *testing.T) {
	for _, s := range []string{
		"chart c { }",
		"chart c { var c = 1; var n = -2; enter { set n = c; } leave { set c = n + in(c); raise n; emit q = in(c); } on c; always [n < c] { set n = 1; }; after 1; after 1099511627776; }",
		"chart c { initial a; state a { } }",
		"chart c { initial h; history h -> a; state a { } }",
		"chart c { initial h; deep h -> b; state a { initial b; state b { } } }",
		"chart c { initial p; always -> g; always -> h; on x -> d, e, a; on y -> p; on z -> e; parallel p { state a { } parallel b { state d { } state e { } } deep h -> e; } history g -> e; }",
		"chart a { var a = 1; initial b; state b { on a [a] { set a = a; raise a; emit a = a; } -> b; } }",
	} {
		checkSound(t, s)
	}
}

// P10.1: a chart that is no tree, or is too long, has the error of printer.Right nowhere.
func TestCheckOfNoTree(t *testing.T) {
	checkCode(t, api.Chart{}, api.Fault{Code: api.ErrTree, At: -1})
	c := parsed(t, "chart c { initial b; state a { } state a { } }")
	c.Root.Kids[0].Kind = 5
	checkCode(t, c, api.Fault{Code: api.ErrTree, At: -1})
	c.Root.Kids[0].Kind = api.NodeState
	c.Root.Moves = []api.Move{{Kind: api.MoveAlways, Targets: slices.Repeat([]string{"a"}, api.MaxSource/3)}}
	checkCode(t, c, api.Fault{Code: api.ErrLong, At: -1})
	c.Root.Moves[0].Targets[7] = "set"
	checkCode(t, c, api.Fault{Code: api.ErrTree, At: -1})
	kids := make([]api.Node, 1)
	kids[0] = api.Node{Kind: api.NodeState, Name: "a", Kids: kids}
	c.Root.Kids = kids
	checkCode(t, c, api.Fault{Code: api.ErrTree, At: -1})
}

// P10.1: ErrDouble at the second node of a name, histories and the root among them.
func TestDoubleNodes(t *testing.T) {
	checkFault(t, "chart c { initial a; state a { } state ^a { } state a { } }", api.ErrDouble)
	checkFault(t, "chart c { initial a; state a { initial c; state ^c { } } state a { } }", api.ErrDouble)
	checkFault(t, "chart c { initial a; state a { } history ^a -> a; }", api.ErrDouble)
	checkFault(t, "chart c { initial a; deep a -> a; state ^a { } }", api.ErrDouble)
	checkFault(t, "chart c { initial a; history a -> b; state b { initial d; state d { } deep ^a -> d; } }", api.ErrDouble)
	checkFault(t, "chart c { initial a; parallel a { state b { } state d { } } state ^d { } state b { } }", api.ErrDouble)
}

// P10.1: then ErrDouble at the second variable of a name.
func TestDoubleVariables(t *testing.T) {
	checkFault(t, "chart c { var a = 1; var b = 2; var ^a = 1; var b = 2; }", api.ErrDouble)
	checkFault(t, "chart c { var a = 1; var a = 2; initial a; state a { } state ^a { } }", api.ErrDouble)
	checkFault(t, "chart c { var a = 1; var ^a = 2; state b { } }", api.ErrDouble)
	checkSound(t, "chart c { var a = 1; var c = 2; initial a; state a { } }")
}

// P10.1: ErrInitial at a compound state whose Initial is not one of its kids.
func TestInitialOfCompound(t *testing.T) {
	checkFault(t, "chart ^c { initial c; state a { } }", api.ErrInitial)
	checkFault(t, "chart ^c { initial b; state a { initial b; state b { } } }", api.ErrInitial)
	checkFault(t, "chart c { initial a; state ^a { initial a; state b { } } }", api.ErrInitial)
	checkFault(t, "chart c { initial a; state ^a { initial d; state b { } } state d { } }", api.ErrInitial)
	checkFault(t, "chart c { initial a; state ^a { parallel p { state b { } state d { } } } }", api.ErrInitial)
	checkFault(t, "chart c { initial a; state ^a { initial h; state b { } } history h -> b; }", api.ErrInitial)
	checkFault(t, "chart c { initial a; state ^a { state b { } history h -> b; } }", api.ErrInitial)
}

// P10.1: ErrInitial at an atomic state that has an Initial.
func TestInitialOfAtomic(t *testing.T) {
	checkFault(t, "chart ^c { initial c; }", api.ErrInitial)
	checkFault(t, "chart ^c { initial x; }", api.ErrInitial)
	checkFault(t, "chart c { initial a; state ^a { initial a; } }", api.ErrInitial)
	checkFault(t, "chart c { initial a; state ^a { initial h; history h -> a; } }", api.ErrInitial)
}

// P10.1: ErrInitial at a parallel node that has an Initial, or fewer than two states.
func TestInitialOfParallel(t *testing.T) {
	checkFault(t, "chart c { initial p; parallel ^p { initial a; state a { } state b { } } }", api.ErrInitial)
	checkFault(t, "chart c { initial p; parallel ^p { } }", api.ErrInitial)
	checkFault(t, "chart c { initial p; parallel ^p { state a { } } }", api.ErrInitial)
	checkFault(t, "chart c { initial p; parallel ^p { history h -> p; deep i -> p; } }", api.ErrInitial)
	checkFault(t, "chart c { initial p; parallel ^p { history h -> a; parallel a { state b { } state d { } } deep i -> a; } }", api.ErrInitial)
	checkFault(t, "chart c { initial p; parallel ^p { state a { initial b; state b { } state d { } } } }", api.ErrInitial)
	checkSound(t, "chart c { initial p; parallel p { parallel a { state b { } state d { } } state e { } } }")
}

// P10.1: ErrHistory at an atomic state that has kids.
func TestHistoryOfAtomic(t *testing.T) {
	checkFault(t, "chart ^c { history h -> c; }", api.ErrHistory)
	checkFault(t, "chart c { initial a; state ^a { deep h -> b; } state b { } }", api.ErrHistory)
}

// P10.1: ErrHistory at a history whose Default is not a state within its parent.
func TestHistoryDefault(t *testing.T) {
	for _, keyword := range []string{"history ^", "deep ^"} {
		checkFault(t, "chart c { initial a; state a { } "+keyword+"h -> x; }", api.ErrHistory)
		checkFault(t, "chart c { initial a; state a { } "+keyword+"h -> c; }", api.ErrHistory)
		checkFault(t, "chart c { initial a; state a { } "+keyword+"h -> h; }", api.ErrHistory)
		checkFault(t, "chart c { initial a; state a { } deep i -> a; "+keyword+"h -> i; }", api.ErrHistory)
		checkFault(t, "chart c { initial a; state a { initial b; state b { } "+keyword+"h -> a; } }", api.ErrHistory)
		checkFault(t, "chart c { initial a; state a { initial b; state b { } "+keyword+"h -> d; } state d { } }", api.ErrHistory)
		checkFault(t, "chart c { initial a; state d { } state a { initial b; state b { } "+keyword+"h -> d; } }", api.ErrHistory)
		checkFault(t, "chart c { initial p; parallel p { state a { } state b { } "+keyword+"h -> p; } }", api.ErrHistory)
		whole := "chart c { initial a; " + keyword + "h -> b; state a { initial b; state b { } } }"
		checkSound(t, strings.Replace(whole, "^", "", 1))
	}
}

// P10.1: ErrName in the acts of Enter and Leave.
func TestNamesOfActs(t *testing.T) {
	for _, block := range []string{"enter { %s }", "leave { %s }", "on x { %s };"} {
		for _, act := range []string{
			"^set x = 1;", "^set c = y;", "set n = ^x;", "emit x = ^x;", "emit x = in(^x);", "set n = in(^n);", "set n = n; emit n = in(c); ^set x = 1; set x = 1;", "raise x; set n = (1 - -^x) * y;", "emit x = n + (!^in(x) - y);", "set n = ^c;",
		} {
			act = strings.Replace(strings.Replace(act, "in(^", "^in(", 1), "^^", "^", 1)
			checkFault(t, "chart c { var n = 1; "+fmt.Sprintf(block, act)+" }", api.ErrName)
		}
	}
	checkFault(t, "chart c { initial a; state a { enter { emit x = in(c) + in(a) + in(p) + ^in(h); } } deep h -> a; state p { } }", api.ErrName)
	checkSound(t, "chart c { var n = 1; enter { set n = n; raise x; emit x = n - in(c); } }")
}

// P10.1: the nodes of a Value are taken in pre-order, which is not always that of their offsets.
func TestNamesInPreOrder(t *testing.T) {
	x := api.Expr{Kind: api.ExprBoth, Op: api.OpAdd, At: 1, Subs: []api.Expr{
		{Kind: api.ExprOne, Op: api.OpNeg, At: 2, Subs: []api.Expr{{Kind: api.ExprVar, Name: "y", At: 30}}},
		{Kind: api.ExprIn, Name: "z", At: 4},
	}}
	c := api.Chart{Root: api.Node{Kind: api.NodeState, Name: "c", Leave: []api.Action{{Kind: api.ActEmit, Name: "e", Value: x}}}}
	checkCode(t, c, api.Fault{Code: api.ErrName, At: 30})
	c.Root.Name = "z"
	x.Subs[0].Subs[0] = api.Expr{Kind: api.ExprIn, Name: "z", At: 5}
	checkCode(t, c, api.Fault{})
	x.Subs[1].Kind = api.ExprVar
	checkCode(t, c, api.Fault{Code: api.ErrName, At: 4})
}

// P10.1: ErrWait at a wait of 0, or beyond 2^40.
func TestWaits(t *testing.T) {
	checkFault(t, "chart c { after 1; ^after 0; }", api.ErrWait)
	checkFault(t, "chart c { initial a; state a { ^after 1099511627777 -> a; } }", api.ErrWait)
	checkFault(t, "chart c { after 1099511627776; ^after 9223372036854775807; }", api.ErrWait)
	checkSound(t, "chart c { initial a; on x; always; state a { after 1 -> a; after 1099511627776 -> a; } }")
}

// P10.1: ErrName in guards.
func TestNamesOfGuards(t *testing.T) {
	checkFault(t, "chart c { var n = 1; on x [n] ; on x [n - ^x]; }", api.ErrName)
	checkFault(t, "chart c { always [^in(x)]; }", api.ErrName)
	checkFault(t, "chart c { initial a; after 1 [in(c) && ^in(h)]; state a { } history h -> a; }", api.ErrName)
	checkFault(t, "chart c { on x [1 || ^n]; }", api.ErrName)
}

// P10.1: ErrTarget at a target that is no node, or the root.
func TestTargetAlone(t *testing.T) {
	checkFault(t, "chart c { ^on x -> x; }", api.ErrTarget)
	checkFault(t, "chart c { ^always -> c; }", api.ErrTarget)
	checkFault(t, "chart c { var n = 1; initial a; state a { on x -> a; ^after 1 -> n; } }", api.ErrTarget)
	checkFault(t, "chart c { initial p; ^on x -> a, b, x; parallel p { state a { } state b { } } }", api.ErrTarget)
	checkFault(t, "chart c { initial p; ^on x -> a, c; parallel p { state a { } state b { } } }", api.ErrTarget)
	checkSound(t, "chart c { initial a; on x -> h; on x -> d; on x -> a; on x; state a { } history h -> a; deep d -> a; }")
}

// P10.1: ErrTarget where two targets are the same, nested, or meet where it is not parallel; a history counts as its parent.
func TestTargetsTogether(t *testing.T) {
	const body = "chart c { initial p; %son x -> %s; parallel p { state a { initial b; state b { } state d { } deep h -> b; } parallel q { state e { } state f { } history g -> e; } history i -> q; } state s { } deep j -> b; }"
	for _, l := range []string{
		"a, a", "a, b", "b, a", "b, d", "p, a", "f, p", "q, f", "e, q", "s, a", "s, p", "s, s", "i, i", "h, h", "h, b", "a, h", "d, h", "g, e", "q, g", "i, a", "f, i", "i, h", "g, i", "i, p", "j, a", "j, j", "s, j", "i, s",
		"a, e, a", "b, e, f, d", "e, f, q", "a, e, f, s", "h, g, e", "b, e, x", "b, c, e",
	} {
		checkFault(t, fmt.Sprintf(body, "^", l), api.ErrTarget)
	}
	for _, l := range []string{"a, e", "e, a", "a, q", "q, b", "e, f", "f, e, d", "h, g", "g, h", "h, e, f", "b, g", "i", "j", "h", "g", "p", "a, g"} {
		checkSound(t, fmt.Sprintf(body, "", l))
	}
}

// P10.1: a move with as many targets as a source holds is soon done with.
func TestManyTargets(t *testing.T) {
	checkFault(t, "chart c { initial a; ^on x -> a"+strings.Repeat(", a", 5000)+"; state a { } }", api.ErrTarget)
	checkFault(t, "chart c { initial a; "+strings.Repeat("on x -> a; ", 199)+"^on x -> x; state a { } }", api.ErrTarget)
}

// P10.1: what comes first in the chapter's list is told, wherever it stands.
func TestOrderOfErrors(t *testing.T) {
	nodes := []string{
		"state a { } state ^a { initial x; } history h -> x;",
		"state a { initial b; state ^b { initial x; enter { set x = 1; } on x -> x; history h -> x; } } state d { initial x; }",
		"state a { initial b; state ^b { enter { set x = 1; } on x -> x; history h -> x; } } state d { initial x; }",
		"state a { enter { emit y = 1; ^set x = x; } leave { set y = 1; } on x -> x; initial b; state b { } }",
		"state a { enter { set n = ^x; set x = 1; } on x -> x; }",
		"state a { leave { set n = ^x; set x = 1; } enter { raise x; } after 0 -> x; }",
		"state a { leave { set n = x; set x = 1; } enter { ^set x = y; } after 0 -> x; }",
		"state a { always; ^after 0 [x] { set x = 1; } -> x; after 0; }",
		"state a { after 1 [in(x) + ^y] { set x = 1; } -> x; }",
		"state a { after 1 { ^set x = 1; } -> x; always [x]; after 0; }",
		"state a { ^after 1 -> x; always [x]; after 0; }",
		"state a { initial b; on x -> a; ^on x -> c; after 0; state b { } history h -> h; }",
		"state a { initial b; state b { on x -> a; ^on x -> c; } history h -> h; }",
		"state a { initial b; history ^h -> h; state b { on x -> c; } }",
	}
	codes := []api.Errno{api.ErrDouble, api.ErrInitial, api.ErrHistory, api.ErrName, api.ErrName, api.ErrName, api.ErrName, api.ErrWait, api.ErrName, api.ErrName, api.ErrTarget, api.ErrTarget, api.ErrTarget, api.ErrHistory}
	for i, s := range nodes {
		s = strings.Replace(s, "in(x)", "in(a)", 1)
		checkFault(t, "chart c { var n = 1; initial a; "+s+" }", codes[i])
	}
	checkFault(t, "chart ^c { initial x; enter { set x = 1; } history h -> x; }", api.ErrInitial)
	checkFault(t, "chart ^c { enter { set x = 1; } history h -> x; }", api.ErrHistory)
	checkFault(t, "chart c { var n = 1; var ^n = 2; initial x; }", api.ErrDouble)
}

// P10.1: charts that are sound, and charts that were changed somewhere, each code often enough.
func TestCheckOfCharts(t *testing.T) {
	r := rand.New(rand.NewSource(51))
	found := map[api.Errno]int{}
	for i := range 6000 {
		c := anyChart(r, 1+i%40)
		for range i % 4 {
			spoil(r, &c)
		}
		setAts(&c, func() int { return r.Intn(1 << 30) })
		want := reference(c)
		found[want.Code]++
		if f := lint.Check(c); f != want {
			t.Fatalf("Check: %v; want %v, of %s", f, want, short(source(t, c)))
		}
		if i%4 == 0 && want.Code != api.OK {
			t.Fatalf("the maker made what is not sound: %v, %s", want, source(t, c))
		}
	}
	for _, code := range []api.Errno{api.OK, api.ErrTree, api.ErrName, api.ErrDouble, api.ErrInitial, api.ErrHistory, api.ErrTarget, api.ErrWait} {
		if found[code] < 60 {
			t.Errorf("%d charts have the code %d", found[code], code)
		}
	}
}

// P10.1: the places told are those of the tree, whichever they are.
func TestPlacesOfTree(t *testing.T) {
	c := parsed(t, "chart c { initial a; state a { } state a { } }")
	c.Root.Kids[1].At = api.MinInt
	checkCode(t, c, api.Fault{Code: api.ErrDouble, At: api.MinInt})
	c.Root.Kids[1].At = 0
	checkCode(t, c, api.Fault{Code: api.ErrDouble})
}

// W2: the same chart has the same error, whatever was checked before.
func TestCheckAgain(t *testing.T) {
	r := rand.New(rand.NewSource(52))
	for i := range 300 {
		c := anyChart(r, 20)
		for range i % 3 {
			spoil(r, &c)
		}
		first := lint.Check(c)
		lint.Check(anyChart(r, 30))
		lint.Check(api.Chart{})
		if again := lint.Check(c); again != first {
			t.Fatalf("%v, and then %v", first, again)
		}
	}
}
