package printer_test

import (
	"slices"
	"strings"
	"sync"
	"testing"
	"unsafe"

	"pavane/api"
	"pavane/printer"
)

// spared is a list with something in its spare capacity.
func spared[E any](l []E, spare E) []E {
	return append(slices.Clone(l), spare, spare)[:len(l)]
}

// sparedChart is a chart of lists that have spare capacity, all of them.
func sparedChart(c api.Chart) api.Chart {
	c = copied(c)
	p := partsOf(&c)
	for _, x := range slices.Backward(p.exprs) {
		x.Subs = spared(x.Subs, api.Expr{Kind: 77, Name: "spare"})
	}
	for _, m := range p.moves {
		m.Actions = spared(m.Actions, api.Action{Kind: 77, Name: "spare"})
		m.Targets = spared(m.Targets, "spare")
	}
	for _, n := range slices.Backward(p.nodes) {
		n.Enter = spared(n.Enter, api.Action{Kind: 77, Name: "spare"})
		n.Leave = spared(n.Leave, api.Action{Kind: 77, Name: "spare"})
		n.Moves = spared(n.Moves, api.Move{Kind: 77, Event: "spare"})
		n.Kids = spared(n.Kids, api.Node{Kind: 77, Name: "spare"})
	}
	c.Vars = spared(c.Vars, api.Var{Name: "spare", Num: 77})
	return c
}

// widened is a chart whose lists are as long as their capacity.
func widened(c api.Chart) api.Chart {
	c.Vars = c.Vars[:cap(c.Vars)]
	c.Root = widenedNode(c.Root)
	return c
}

func widenedNode(n api.Node) api.Node {
	n.Enter, n.Leave = widenedActs(n.Enter), widenedActs(n.Leave)
	n.Moves, n.Kids = slices.Clone(n.Moves[:cap(n.Moves)]), slices.Clone(n.Kids[:cap(n.Kids)])
	for i := range n.Moves {
		m := &n.Moves[i]
		m.Guard, m.Actions, m.Targets = widenedExpr(m.Guard), widenedActs(m.Actions), m.Targets[:cap(m.Targets)]
	}
	for i := range n.Kids {
		n.Kids[i] = widenedNode(n.Kids[i])
	}
	return n
}

func widenedActs(l []api.Action) []api.Action {
	l = slices.Clone(l[:cap(l)])
	for i := range l {
		l[i].Value = widenedExpr(l[i].Value)
	}
	return l
}

func widenedExpr(x api.Expr) api.Expr {
	x.Subs = slices.Clone(x.Subs[:cap(x.Subs)])
	for i := range x.Subs {
		x.Subs[i] = widenedExpr(x.Subs[i])
	}
	return x
}

// P8.2: the calls do not change a chart, nor the spare capacity of its lists; what lies there is not printed.
func TestArgumentsStay(t *testing.T) {
	for _, source := range []string{exampleSource, allSource} {
		c := sparedChart(parsed(t, source))
		before := shown(widened(c))
		if strings.Count(before, "spare") < 20 {
			t.Fatal("the lists have no spare capacity")
		}
		checkPrint(t, c, reference(c))
		for _, m := range partsOf(&c).moves {
			checkMove(t, *m, moveLine(*m))
		}
		if shown(widened(c)) != before {
			t.Error("a chart was changed")
		}
	}
}

// P8.2: a chart that is refused is not changed either.
func TestWrongArgumentsStay(t *testing.T) {
	c := sparedChart(parsed(t, allSource))
	for i, n := range partsOf(&c).nodes {
		name := n.Name
		n.Name = "set"
		before := shown(widened(c))
		checkError(t, c, api.ErrTree)
		if shown(widened(c)) != before {
			t.Errorf("the chart with a wrong node %d was changed", i)
		}
		n.Name = name
	}
	c.Root.Moves = append(c.Root.Moves, sized(1<<15))
	before := shown(widened(c))
	checkError(t, c, api.ErrLong)
	if shown(widened(c)) != before {
		t.Error("the chart that is too long was changed")
	}
}

// P8.2: the text does not change with the memory of the names.
func TestNamesAreNotKept(t *testing.T) {
	bytes := []byte("name")
	name := unsafe.String(&bytes[0], len(bytes))
	x := api.Expr{Kind: api.ExprVar, Name: name}
	m := api.Move{Kind: api.MoveOn, Event: name, Guarded: true, Guard: x, Actions: []api.Action{{Kind: api.ActRaise, Name: name}}, Targets: []string{name}}
	s, code := printer.Print(api.Chart{Vars: []api.Var{{Name: name}}, Root: state(name, m)})
	line := printer.Move(m)
	for i := range bytes {
		bytes[i] = 'z'
	}
	want := "on name [name] { raise name; } -> name;"
	if code != api.OK || s != "chart name {\n  var name = 0;\n  "+want+"\n}\n" || line != want {
		t.Errorf("Print: %q, %d; Move: %q", s, code, line)
	}
}

// P8.2: a text does not change as others are made, nor as its chart is.
func TestResultsAreFresh(t *testing.T) {
	c := parsed(t, allSource)
	first, _ := printer.Print(c)
	line := printer.Move(c.Root.Moves[0])
	for range 3 {
		printer.Print(parsed(t, exampleSource))
		for _, n := range partsOf(&c).nodes {
			n.Name += "x"
		}
		c.Root.Moves[0].Event += "x"
		printer.Print(c)
		printer.Move(c.Root.Moves[0])
	}
	if first != allLines || line != "on x { emit m = in(s); };" {
		t.Errorf("the texts have changed: %q, %q", first, line)
	}
}

// P8.2: calls at the same time do not touch each other's results.
func TestCallsAtOnce(t *testing.T) {
	c := parsed(t, allSource)
	var all sync.WaitGroup
	for range 8 {
		all.Go(func() {
			for range 50 {
				s, code := printer.Print(c)
				if s != allLines || code != api.OK || printer.Right(c) != api.OK || printer.Move(c.Root.Moves[1]) != "always;" {
					t.Error("a call is disturbed by others")
				}
			}
		})
	}
	all.Wait()
}
