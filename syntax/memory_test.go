package syntax_test

import (
	"sync"
	"testing"
	"unsafe"

	"pavane/api"
	"pavane/syntax"
)

// scribble writes over all that a slice holds, its spare capacity too.
func scribble[E any](s []E, with E) {
	s = s[:cap(s)]
	for i := range s {
		s[i] = with
	}
}

// scribbleChart writes over each list of a chart, the innermost ones first.
func scribbleChart(c api.Chart) {
	scribble(c.Vars, api.Var{Name: "x", Num: 7, At: -1})
	scribbleNode(c.Root)
}

func scribbleNode(n api.Node) {
	scribbleActs(n.Enter)
	scribbleActs(n.Leave)
	for _, m := range n.Moves {
		scribbleExpr(m.Guard)
		scribbleActs(m.Actions)
		scribble(m.Targets, "x")
	}
	scribble(n.Moves, api.Move{Kind: -1, Event: "x"})
	for _, kid := range n.Kids {
		scribbleNode(kid)
	}
	scribble(n.Kids, api.Node{Kind: -1, Name: "x"})
}

func scribbleActs(l []api.Action) {
	for _, a := range l {
		scribbleExpr(a.Value)
	}
	scribble(l, api.Action{Kind: -1, Name: "x"})
}

func scribbleExpr(x api.Expr) {
	for _, y := range x.Subs {
		scribbleExpr(y)
	}
	scribble(x.Subs, api.Expr{Kind: -1, Name: "x"})
}

// memory is where each list of a chart lies, with its spare capacity, element by element.
func memory(c api.Chart) []any {
	l := places(c.Vars)
	var node func(n api.Node)
	var value func(x api.Expr)
	value = func(x api.Expr) {
		l = append(l, places(x.Subs)...)
		for _, y := range x.Subs {
			value(y)
		}
	}
	acts := func(as []api.Action) {
		l = append(l, places(as)...)
		for _, a := range as {
			value(a.Value)
		}
	}
	node = func(n api.Node) {
		acts(n.Enter)
		acts(n.Leave)
		l = append(append(l, places(n.Moves)...), places(n.Kids)...)
		for _, m := range n.Moves {
			value(m.Guard)
			acts(m.Actions)
			l = append(l, places(m.Targets)...)
		}
		for _, kid := range n.Kids {
			node(kid)
		}
	}
	node(c.Root)
	return l
}

func places[E any](s []E) []any {
	var l []any
	s = s[:cap(s)]
	for i := range s {
		l = append(l, &s[i])
	}
	return l
}

// P7.2: a tree shares memory with no other one.
func TestParseIsFresh(t *testing.T) {
	first := parsed(t, fullChart)
	kept := shown(first)
	for range 3 {
		c := parsed(t, fullChart)
		if shown(c) != kept {
			t.Fatalf("Parse: %s; want %s", shown(c), kept)
		}
		scribbleChart(c)
		if shown(first) != kept {
			t.Fatal("a tree changes as another one is written over")
		}
	}
}

// P7.2: no two lists of a tree share memory, nor their spare capacity.
func TestParseListsAreApart(t *testing.T) {
	for _, s := range []string{fullChart, "chart c { " + vars(7) + "enter { " + acts(5) + "} leave { " + acts(3) + "} on e { " + acts(3) + "} -> a, b, c; on e { " + acts(9) + "} -> a, b, c; " + nodes(11) + "}"} {
		seen := map[any]bool{}
		l := memory(parsed(t, s))
		for _, p := range l {
			if seen[p] {
				t.Fatal("two lists of a tree share memory")
			}
			seen[p] = true
		}
		if len(l) < 20 {
			t.Errorf("only %d elements", len(l))
		}
	}
}

// P7.2: the tree does not change with the memory of the source.
func TestParseDoesNotKeepSource(t *testing.T) {
	bytes := []byte(fullChart)
	c, f := syntax.Parse(unsafe.String(&bytes[0], len(bytes)))
	if string(bytes) != fullChart {
		t.Error("Parse changes the source")
	}
	scribble(bytes, '$')
	if want := parsed(t, fullChart); f != (api.Fault{}) || shown(c) != shown(want) {
		t.Errorf("Parse: %s, %v; want %s", shown(c), f, shown(want))
	}
}

// P7.2: calls at the same time do not touch each other's results.
func TestParseAtOnce(t *testing.T) {
	want := shown(parsed(t, fullChart))
	var all sync.WaitGroup
	for range 8 {
		all.Go(func() {
			for n := range 60 {
				c, f := syntax.Parse(fullChart)
				if f != (api.Fault{}) || shown(c) != want {
					t.Error("a call is disturbed by others")
				}
				scribbleChart(c)
				syntax.Parse(fullChart[:n])
			}
		})
	}
	all.Wait()
}
