package lint_test

import (
	"slices"
	"strings"
	"sync"
	"testing"
	"unsafe"

	"pavane/api"
	"pavane/lint"
)

const exampleSource = "chart c { var v = 1; initial p; enter { set v = in(a) + v; raise go; } on go -> a, d; after 3 [v > 1] { raise up; emit e = -v; } -> h; parallel p { state a { } state b { initial d; state d { on down; } } history h -> d; } }"

// P10.3: a chart is not changed, nor the spare capacity of its lists; what lies there does not count.
func TestChartStays(t *testing.T) {
	c := spared(parsed(t, exampleSource))
	before := shown(widened(c))
	if strings.Count(before, "spare") < 20 {
		t.Fatal("the lists have no spare capacity")
	}
	checkCode(t, c, api.Fault{})
	checkEvents(t, c, []string{"down", "go", "up"})
	if shown(widened(c)) != before {
		t.Error("the chart was changed")
	}
	c.Root.Kids[0].Kids[0].Name = "b"
	before = shown(widened(c))
	checkCode(t, c, api.Fault{Code: api.ErrDouble, At: c.Root.Kids[0].Kids[1].At})
	if shown(widened(c)) != before {
		t.Error("the chart that is not sound was changed")
	}
}

// spared is a chart with something in the spare capacity of each list.
func spared(c api.Chart) api.Chart {
	c.Vars = spare(c.Vars, api.Var{Name: "spare"})
	c.Root = sparedNode(c.Root)
	return c
}

func spare[E any](l []E, e E) []E { return append(slices.Clone(l), e, e)[:len(l)] }

func sparedNode(n api.Node) api.Node {
	n.Enter, n.Leave = sparedActs(n.Enter), sparedActs(n.Leave)
	n.Moves = spare(n.Moves, api.Move{Kind: api.MoveOn, Event: "spare"})
	for i := range n.Moves {
		m := &n.Moves[i]
		m.Actions, m.Targets, m.Guard = sparedActs(m.Actions), spare(m.Targets, "spare"), sparedExpr(m.Guard)
	}
	n.Kids = spare(n.Kids, api.Node{Kind: api.NodeState, Name: "spare"})
	for i := range n.Kids {
		n.Kids[i] = sparedNode(n.Kids[i])
	}
	return n
}

func sparedActs(l []api.Action) []api.Action {
	l = spare(l, api.Action{Kind: api.ActRaise, Name: "spare"})
	for i := range l {
		l[i].Value = sparedExpr(l[i].Value)
	}
	return l
}

func sparedExpr(x api.Expr) api.Expr {
	x.Subs = spare(x.Subs, api.Expr{Kind: api.ExprVar, Name: "spare"})
	for i := range x.Subs {
		x.Subs[i] = sparedExpr(x.Subs[i])
	}
	return x
}

// widened is a chart whose lists are as long as their capacity.
func widened(c api.Chart) api.Chart {
	c.Vars = c.Vars[:cap(c.Vars)]
	c.Root = widenedNode(c.Root)
	return c
}

func widenedNode(n api.Node) api.Node {
	n.Enter, n.Leave = widenedActs(n.Enter), widenedActs(n.Leave)
	n.Moves = slices.Clone(n.Moves[:cap(n.Moves)])
	for i := range n.Moves {
		m := &n.Moves[i]
		m.Actions, m.Targets, m.Guard = widenedActs(m.Actions), m.Targets[:cap(m.Targets)], widenedExpr(m.Guard)
	}
	n.Kids = slices.Clone(n.Kids[:cap(n.Kids)])
	for i := range n.Kids {
		n.Kids[i] = widenedNode(n.Kids[i])
	}
	return n
}

func widenedActs(l []api.Action) []api.Action {
	l = slices.Clone(l[:cap(l)])
	for i := range l {
		l[i].Value = widenedExpr(l[i].Value)
	}
	return l
}

func widenedExpr(x api.Expr) api.Expr {
	x.Subs = slices.Clone(x.Subs[:cap(x.Subs)])
	for i := range x.Subs {
		x.Subs[i] = widenedExpr(x.Subs[i])
	}
	return x
}

// P10.3: a chart does not change with the memory of its source, nor with another chart of it.
func TestSoundIsFresh(t *testing.T) {
	bytes := []byte(exampleSource)
	want := shown(parsed(t, exampleSource))
	s := unsafe.String(&bytes[0], len(bytes))
	c, _ := lint.Sound(s)
	d, _ := lint.Sound(s)
	scribble(&d)
	for i := range bytes {
		bytes[i] = 'z'
	}
	if shown(c) != want {
		t.Errorf("the chart has changed: %s", shown(c))
	}
	c, _ = lint.Sound(exampleSource)
	if shown(c) != want {
		t.Errorf("the chart has changed: %s", shown(c))
	}
}

// scribble writes over all that a chart holds, the spare capacity too.
func scribble(c *api.Chart) {
	p := partsOf(c)
	for _, n := range p.nodes {
		n.Enter, n.Leave = fill(n.Enter, api.Action{Name: "zz"}), fill(n.Leave, api.Action{Name: "zz"})
	}
	for _, m := range p.moves {
		m.Targets = fill(m.Targets, "zz")
		*m = api.Move{Event: "zz"}
	}
	c.Vars = fill(c.Vars, api.Var{Name: "zz"})
	c.Root.Kids = fill(c.Root.Kids, api.Node{Name: "zz"})
}

func fill[E any](l []E, e E) []E {
	l = l[:cap(l)]
	for i := range l {
		l[i] = e
	}
	return l
}

// P10.3: the events do not change with the memory of the chart's names, nor with another list of them.
func TestEventsAreFresh(t *testing.T) {
	c := parsed(t, exampleSource)
	on, raised := []byte("a1"), []byte("b1")
	c.Root.Moves[0].Event = unsafe.String(&on[0], 2)
	c.Root.Enter[1].Name = unsafe.String(&raised[0], 2)
	want := []string{"a1", "b1", "down", "up"}
	l, other := lint.Events(c), lint.Events(c)
	fill(other, "zz")
	copy(on, "zz")
	copy(raised, "zz")
	c.Root.Kids = nil
	if !slices.Equal(l, want) {
		t.Errorf("the events have changed: %q", l)
	}
}

// P10.3: calls at the same time do not touch each other's results.
func TestCallsAtOnce(t *testing.T) {
	c := parsed(t, exampleSource)
	want := shown(c)
	var all sync.WaitGroup
	for range 8 {
		all.Go(func() {
			for range 100 {
				if d, f := lint.Sound(exampleSource); f != (api.Fault{}) || shown(d) != want {
					t.Errorf("Sound: %v", f)
				}
				if lint.Check(c) != (api.Fault{}) || !slices.Equal(lint.Events(c), []string{"down", "go", "up"}) {
					t.Error("a call is disturbed by others")
				}
			}
		})
	}
	all.Wait()
}
