package lint_test

import (
	"fmt"
	"math/rand"
	"slices"
	"strings"
	"testing"

	"pavane/api"
	"pavane/expr"
	"pavane/lint"
	"pavane/printer"
	"pavane/syntax"
)

// The reference lists every error that a chart has, in the chapter's order, and takes the first one. Of each node it has the names from the root to it, and tells by those how nodes are nested. It shares nothing with the package.

// entry is a node, and the names of the nodes from the root to it.
type entry struct {
	api.Node
	path []string
}

func entries(n api.Node, above ...string) []entry {
	path := append(slices.Clone(above), n.Name)
	l := []entry{{n, path}}
	for _, kid := range n.Kids {
		l = append(l, entries(kid, path...)...)
	}
	return l
}

func (e entry) isHistory() bool { return e.Kind == api.NodeHistory || e.Kind == api.NodeDeep }

func (e entry) isCompound() bool {
	return e.Kind == api.NodeState && e.states() > 0
}

func (e entry) isAtomic() bool {
	return e.Kind == api.NodeState && e.states() == 0
}

func (e entry) states() int {
	return len(slices.DeleteFunc(slices.Clone(e.Kids), func(kid api.Node) bool { return entry{Node: kid}.isHistory() }))
}

// judge lists the errors of a chart.
type judge struct {
	all    []entry
	vars   []string
	faults []api.Fault
}

func (j *judge) found(bad bool, code api.Errno, at int) {
	if bad {
		j.faults = append(j.faults, api.Fault{Code: code, At: at})
	}
}

func (j *judge) entry(name string) *entry {
	if i := slices.IndexFunc(j.all, func(e entry) bool { return e.Name == name }); i >= 0 {
		return &j.all[i]
	}
	return nil
}

// reference is what Check finds.
func reference(c api.Chart) api.Fault {
	if code := printer.Right(c); code != api.OK {
		return api.Fault{Code: code, At: -1}
	}
	j := judge{all: entries(c.Root)}
	for i, e := range j.all {
		j.found(j.entry(e.Name) != &j.all[i], api.ErrDouble, e.At)
	}
	for _, v := range c.Vars {
		j.found(slices.Contains(j.vars, v.Name), api.ErrDouble, v.At)
		j.vars = append(j.vars, v.Name)
	}
	if len(j.faults) == 0 { // names tell which node is meant
		for _, e := range j.all {
			j.node(e)
		}
	}
	return append(j.faults, api.Fault{})[0]
}

func (j *judge) node(e entry) {
	kidNames := []string{}
	for _, kid := range e.Kids {
		kidNames = append(kidNames, kid.Name)
	}
	j.found(e.isCompound() && !slices.Contains(kidNames, e.Initial), api.ErrInitial, e.At)
	j.found((e.isAtomic() || e.Kind == api.NodeParallel) && e.Initial != "", api.ErrInitial, e.At)
	j.found(e.Kind == api.NodeParallel && e.states() < 2, api.ErrInitial, e.At)
	j.found(e.isAtomic() && len(e.Kids) > 0, api.ErrHistory, e.At)
	if e.isHistory() {
		d := j.entry(e.Default)
		parent := e.path[len(e.path)-2]
		j.found(d == nil || d.isHistory() || d.Name == parent || !slices.Contains(d.path, parent), api.ErrHistory, e.At)
	}
	j.acts(append(slices.Clone(e.Enter), e.Leave...))
	for _, m := range e.Moves {
		j.found(m.Kind == api.MoveAfter && (m.Wait == 0 || m.Wait > 1099511627776), api.ErrWait, m.At)
		j.expr(m.Guard)
		j.acts(m.Actions)
		j.found(!j.canBeTargets(m.Targets), api.ErrTarget, m.At)
	}
}

func (j *judge) acts(l []api.Action) {
	for _, a := range l {
		j.found(a.Kind == api.ActSet && !slices.Contains(j.vars, a.Name), api.ErrName, a.At)
		j.expr(a.Value)
	}
}

func (j *judge) expr(x api.Expr) {
	j.found(x.Kind == api.ExprVar && !slices.Contains(j.vars, x.Name), api.ErrName, x.At)
	if x.Kind == api.ExprIn {
		e := j.entry(x.Name)
		j.found(e == nil || e.isHistory(), api.ErrName, x.At)
	}
	for _, y := range x.Subs {
		j.expr(y)
	}
}

func (j *judge) canBeTargets(names []string) bool {
	var paths [][]string
	for _, name := range names {
		e := j.entry(name)
		if e == nil || len(e.path) == 1 {
			return false
		}
		path := e.path
		if e.isHistory() {
			path = path[:len(path)-1]
		}
		paths = append(paths, path)
	}
	for a := range paths {
		for b := range a {
			if !j.areApart(paths[a], paths[b]) {
				return false
			}
		}
	}
	return true
}

// areApart reports whether the last node that two paths share is parallel, and both go on.
func (j *judge) areApart(p, q []string) bool {
	n := 0
	for n < len(p) && n < len(q) && p[n] == q[n] {
		n++
	}
	return n < len(p) && n < len(q) && j.entry(p[n-1]).Kind == api.NodeParallel
}

// shown is all of a value as a text, in which a nil list and an empty one are the same.
func shown(v any) string { return fmt.Sprintf("%+v", v) }

// short is what a message shows of a text.
func short(s string) string { return s[:min(len(s), 900)] }

// parsed is the tree of a source without a fault.
func parsed(t *testing.T, s string) api.Chart {
	t.Helper()
	c, f := syntax.Parse(s)
	if f != (api.Fault{}) {
		t.Fatalf("Parse of %q: %v", short(s), f)
	}
	return c
}

// source is the formatted lines of a chart.
func source(t *testing.T, c api.Chart) string {
	t.Helper()
	s, code := printer.Print(c)
	if code != api.OK {
		t.Fatalf("Print of %s: %d", short(shown(c)), code)
	}
	return s
}

// read is the tree of an expression without a fault.
func read(s string) api.Expr {
	x, f := expr.Read(s)
	if f != (api.Fault{}) {
		panic(s)
	}
	return x
}

// checkFault holds a source in which a sign ^ shows where the error is.
func checkFault(t *testing.T, marked string, code api.Errno) {
	t.Helper()
	at := strings.Index(marked, "^")
	s := strings.Replace(marked, "^", "", 1)
	if at < 0 || strings.Contains(s, "^") {
		t.Fatalf("%q has no one mark", marked)
	}
	want := api.Fault{Code: code, At: at}
	if f := lint.Check(parsed(t, s)); f != want {
		t.Errorf("Check of %q: %v; want %v", short(s), f, want)
	}
	if c, f := lint.Sound(s); f != want || shown(c) != shown(api.Chart{}) {
		t.Errorf("Sound of %q: %s, %v; want nothing and %v", short(s), short(shown(c)), f, want)
	}
}

// checkSound holds a source of a sound chart.
func checkSound(t *testing.T, s string) {
	t.Helper()
	tree := parsed(t, s)
	if f := lint.Check(tree); f != (api.Fault{}) {
		t.Errorf("Check of %q: %v", short(s), f)
	}
	if c, f := lint.Sound(s); f != (api.Fault{}) || shown(c) != shown(tree) {
		t.Errorf("Sound of %q: %s, %v", short(s), short(shown(c)), f)
	}
}

func checkCode(t *testing.T, c api.Chart, want api.Fault) {
	t.Helper()
	if f := lint.Check(c); f != want {
		t.Errorf("Check: %v; want %v", f, want)
	}
}

// maker makes sound charts; it has so many nodes left, and knows all that it has declared.
type maker struct {
	*rand.Rand
	left   int
	many   int
	vars   []string
	states []string
	all    []entry
}

// anyChart is a sound chart of so many nodes at most.
func anyChart(r *rand.Rand, most int) api.Chart {
	m := &maker{Rand: r, left: most - 1}
	var c api.Chart
	for i := range r.Intn(4) {
		m.vars = append(m.vars, fmt.Sprint("n", i))
		c.Vars = append(c.Vars, api.Var{Name: m.vars[i], Num: r.Intn(9) - 4})
	}
	c.Root = m.tree(api.NodeState, 0)
	m.all = entries(c.Root)
	for _, e := range m.all {
		if !e.isHistory() {
			m.states = append(m.states, e.Name)
		}
	}
	m.fill(&c.Root)
	return c
}

// tree is a node with all that is within it, but for acts and moves.
func (m *maker) tree(kind, depth int) api.Node {
	n := api.Node{Kind: kind, Name: fmt.Sprint("n", m.many)} // variables have such names too
	m.many++
	kids := m.Intn(4)
	if kind == api.NodeParallel {
		kids = 2 + m.Intn(2)
	}
	if m.left < kids+1 || depth > 7 && kind == api.NodeState {
		return n
	}
	m.left -= kids
	for range kids {
		kind := api.NodeState
		if m.left > 9 && depth < 7 && m.Intn(3) == 0 {
			kind = api.NodeParallel
			m.left -= 3 // so that the kids can have kids of their own
		}
		n.Kids = append(n.Kids, m.tree(kind, depth+1))
	}
	if kids == 0 {
		return n
	}
	if m.left > 0 && m.Intn(3) == 0 {
		m.left--
		within := entries(n)
		d := within[1+m.Intn(len(within)-1)]
		for d.isHistory() {
			d = within[1+m.Intn(len(within)-1)]
		}
		n.Kids = slices.Insert(n.Kids, m.Intn(len(n.Kids)+1), api.Node{Kind: api.NodeHistory + m.Intn(2), Name: fmt.Sprint("n", m.many), Default: d.Name})
		m.many++
	}
	if n.Kind == api.NodeState {
		n.Initial = n.Kids[m.Intn(len(n.Kids))].Name
	}
	return n
}

// fill gives acts and moves to a node and to those within it.
func (m *maker) fill(n *api.Node) {
	if n.Kind == api.NodeHistory || n.Kind == api.NodeDeep {
		return
	}
	n.Enter, n.Leave = m.block(), m.block()
	for range m.Intn(3) {
		n.Moves = append(n.Moves, m.move())
	}
	for i := range n.Kids {
		m.fill(&n.Kids[i])
	}
}

func (m *maker) move() api.Move {
	v := api.Move{Kind: 1 + m.Intn(3), Actions: m.block(), Targets: m.targets()}
	switch v.Kind {
	case api.MoveOn:
		v.Event = m.event()
	case api.MoveAfter:
		v.Wait = []int{1, 2, api.MaxTick - 1, api.MaxTick}[m.Intn(4)]
	}
	if v.Guarded = m.Intn(3) == 0; v.Guarded {
		v.Guard = m.expression()
	}
	return v
}

func (m *maker) event() string { return []string{"go", "stop", "n1", "x", "Go"}[m.Intn(5)] }

func (m *maker) block() []api.Action {
	var l []api.Action
	for range max(m.Intn(5)-2, 0) {
		a := api.Action{Kind: 2 + m.Intn(2), Name: m.event()}
		if len(m.vars) > 0 && m.Intn(2) == 0 {
			a = api.Action{Kind: api.ActSet, Name: m.vars[m.Intn(len(m.vars))]}
		}
		if a.Kind != api.ActRaise {
			a.Value = m.expression()
		}
		l = append(l, a)
	}
	return l
}

func (m *maker) expression() api.Expr {
	one := func() string {
		switch s := m.states[m.Intn(len(m.states))]; m.Intn(3) {
		case 0:
			return "-in(" + s + ")"
		case 1:
			if len(m.vars) > 0 {
				return m.vars[m.Intn(len(m.vars))]
			}
		}
		return fmt.Sprint(m.Intn(9))
	}
	return read([]string{one(), one() + " + " + one(), "!(" + one() + " - " + one() + " == " + one() + ")"}[m.Intn(3)])
}

// targets takes nodes as long as they go together.
func (m *maker) targets() []string {
	var l []string
	j := judge{all: m.all}
	for range m.Intn(9) {
		name := m.all[m.Intn(len(m.all))].Name
		if j.canBeTargets(append(slices.Clone(l), name)) {
			l = append(l, name)
		}
	}
	return l
}

// parts are pointers to all that a chart holds.
type parts struct {
	vars  []*api.Var
	nodes []*api.Node
	moves []*api.Move
	acts  []*api.Action
	exprs []*api.Expr
}

func partsOf(c *api.Chart) parts {
	var p parts
	for i := range c.Vars {
		p.vars = append(p.vars, &c.Vars[i])
	}
	p.node(&c.Root)
	return p
}

func (p *parts) node(n *api.Node) {
	p.nodes = append(p.nodes, n)
	p.block(n.Enter)
	p.block(n.Leave)
	for i := range n.Moves {
		m := &n.Moves[i]
		p.moves = append(p.moves, m)
		p.expr(&m.Guard)
		p.block(m.Actions)
	}
	for i := range n.Kids {
		p.node(&n.Kids[i])
	}
}

func (p *parts) block(l []api.Action) {
	for i := range l {
		p.acts = append(p.acts, &l[i])
		p.expr(&l[i].Value)
	}
}

func (p *parts) expr(x *api.Expr) {
	p.exprs = append(p.exprs, x)
	for i := range x.Subs {
		p.expr(&x.Subs[i])
	}
}

// setAts writes over all offsets of a chart.
func setAts(c *api.Chart, at func() int) {
	p := partsOf(c)
	for _, v := range p.vars {
		v.At = at()
	}
	for _, n := range p.nodes {
		n.At = at()
	}
	for _, m := range p.moves {
		m.At = at()
	}
	for _, a := range p.acts {
		a.At = at()
	}
	for _, x := range p.exprs {
		x.At = at()
	}
}

// spoil changes a chart somewhere, mostly such that it is no longer sound.
func spoil(r *rand.Rand, c *api.Chart) {
	p := partsOf(c)
	name := p.nodes[r.Intn(len(p.nodes))].Name
	if r.Intn(4) == 0 {
		name = "n77"
	}
	n := p.nodes[r.Intn(len(p.nodes))]
	switch r.Intn(12) {
	case 0:
		n.Name = name
	case 1:
		if len(p.vars) > 0 {
			p.vars[r.Intn(len(p.vars))].Name = []string{"n0", "n1", "n2"}[r.Intn(3)]
		}
	case 2:
		n.Initial = name
	case 3:
		n.Initial = ""
	case 4:
		n.Default = name
	case 5:
		if len(n.Kids) > 0 {
			n.Kids = slices.Delete(slices.Clone(n.Kids), 0, 1)
		}
	case 6:
		n.Kids = append(slices.Clip(n.Kids), api.Node{Kind: api.NodeHistory + r.Intn(2), Name: "n88", Default: name})
	case 7, 8:
		if len(p.moves) > 0 {
			m := p.moves[r.Intn(len(p.moves))]
			m.Targets = append(slices.Clip(m.Targets), name)
		}
	case 9:
		if len(p.moves) > 0 {
			m := p.moves[r.Intn(len(p.moves))]
			m.Kind, m.Event, m.Wait = api.MoveAfter, "", []int{0, 1, api.MaxTick, api.MaxTick + 1, api.MaxInt}[r.Intn(5)]
		}
	case 10:
		if len(p.acts) > 0 {
			p.acts[r.Intn(len(p.acts))].Name = name
		}
	case 11:
		if len(p.exprs) > 0 {
			if x := p.exprs[r.Intn(len(p.exprs))]; x.Kind == api.ExprVar || x.Kind == api.ExprIn {
				x.Name = name
			}
		}
	}
}
