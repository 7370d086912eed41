package syntax

import (
	"pavane/api"
	"pavane/expr"
)

// parser parses a chart. It counts what is limited in the whole of it; level is how many nodes are around the place.
type parser struct {
	cursor
	vars, nodes, moves, acts int
	level                    int
}

// The clauses that a body has at most once.
const (
	initialClause = iota
	enterClause
	leaveClause
	singleClauses // how many there are
)

// clauses are those that have occurred in a body. What they left there would not tell: a block may be empty.
type clauses [singleClauses]bool

// chart parses the whole source.
func (p *parser) chart() api.Chart {
	var c api.Chart
	p.need("chart")
	c.Root = p.named(api.NodeState)
	p.enclosed(func() {
		p.each(func() { c.Vars = append(c.Vars, p.variable()) }, "var")
		p.body(&c.Root)
	})
	if p.now().Kind != api.TokEnd {
		p.unfit()
	}
	return c
}

// count counts one more of what a chart has no more of than most; t is the token that a fault would stand at.
func (p *parser) count(many *int, most int, t api.Token) {
	*many++
	if *many > most {
		p.fail(api.ErrLong, t)
	}
}

func (p *parser) variable() api.Var {
	p.need("var")
	t := p.name()
	p.count(&p.vars, api.MaxVars, t)
	v := api.Var{Name: t.Text, At: t.At}
	p.need("=")
	negative := p.skip("-")
	v.Num = p.integer()
	if negative {
		v.Num = -v.Num
	}
	p.need(";")
	return v
}

// named parses the name of a node. Too many nodes come ahead of too many within each other.
func (p *parser) named(kind int) api.Node {
	t := p.name()
	p.count(&p.nodes, api.MaxNodes, t)
	if p.level >= api.MaxDeep {
		p.fail(api.ErrNest, t)
	}
	return api.Node{Kind: kind, Name: t.Text, At: t.At}
}

// body parses what is in a node.
func (p *parser) body(n *api.Node) {
	var seen clauses
	p.level++
	p.each(func() { p.clause(n, &seen) }, "initial", "enter", "leave", "on", "always", "after")
	p.each(func() { n.Kids = append(n.Kids, p.node()) }, "state", "parallel", "history", "deep")
	p.level--
}

func (p *parser) clause(n *api.Node, seen *clauses) {
	switch p.now().Text {
	case "initial":
		p.once(&seen[initialClause])
		n.Initial = p.name().Text
		p.need(";")
	case "enter":
		p.once(&seen[enterClause])
		n.Enter = p.block()
	case "leave":
		p.once(&seen[leaveClause])
		n.Leave = p.block()
	default:
		n.Moves = append(n.Moves, p.move())
	}
}

// once takes the keyword of a clause, which cannot occur again.
func (p *parser) once(seen *bool) {
	if *seen {
		p.unfit()
	}
	*seen = true
	p.take()
}

func (p *parser) node() api.Node {
	switch p.take().Text {
	case "state":
		return p.state(api.NodeState)
	case "parallel":
		return p.state(api.NodeParallel)
	case "history":
		return p.history(api.NodeHistory)
	}
	return p.history(api.NodeDeep)
}

// state parses a node with a body, from its name on.
func (p *parser) state(kind int) api.Node {
	n := p.named(kind)
	p.enclosed(func() { p.body(&n) })
	return n
}

// history parses a node with a default, from its name on.
func (p *parser) history(kind int) api.Node {
	n := p.named(kind)
	p.need("->")
	n.Default = p.name().Text
	p.need(";")
	return n
}

func (p *parser) move() api.Move {
	t := p.take()
	p.count(&p.moves, api.MaxMoves, t)
	m := api.Move{At: t.At}
	switch t.Text {
	case "on":
		m.Kind, m.Event = api.MoveOn, p.name().Text
	case "always":
		m.Kind = api.MoveAlways
	case "after":
		m.Kind, m.Wait = api.MoveAfter, p.integer()
	}
	if m.Guarded = p.skip("["); m.Guarded {
		m.Guard = p.expression()
		p.need("]")
	}
	if p.begins("{") {
		m.Actions = p.block()
	}
	if p.begins("->") {
		m.Targets = p.targets()
	}
	p.need(";")
	return m
}

// targets parses the arrow and the names behind it.
func (p *parser) targets() []string {
	p.take()
	l := []string{p.name().Text}
	p.each(func() {
		p.take()
		l = append(l, p.name().Text)
	}, ",")
	return l
}

func (p *parser) block() []api.Action {
	var l []api.Action
	p.enclosed(func() {
		p.each(func() { l = append(l, p.act()) }, "set", "raise", "emit")
	})
	return l
}

func (p *parser) act() api.Action {
	t := p.take()
	p.count(&p.acts, api.MaxActs, t)
	a := api.Action{Kind: actKind(t.Text), Name: p.name().Text, At: t.At}
	if a.Kind != api.ActRaise {
		p.need("=")
		a.Value = p.expression()
	}
	p.need(";")
	return a
}

// actKind is the kind of an act that begins with a keyword.
func actKind(word string) int {
	switch word {
	case "set":
		return api.ActSet
	case "raise":
		return api.ActRaise
	}
	return api.ActEmit
}

// expression parses an expression, whose fault stands where expr finds it.
func (p *parser) expression() api.Expr {
	if p.failed() {
		return api.Expr{}
	}
	x, next, fault := expr.Parse(p.tokens, p.at)
	if fault.Code != api.OK {
		p.fault = fault
		return api.Expr{}
	}
	p.at = next
	return x
}
