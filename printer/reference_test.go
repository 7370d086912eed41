package printer_test

import (
	"fmt"
	"math/rand"
	"slices"
	"strings"
	"testing"

	"pavane/api"
	"pavane/expr"
	"pavane/printer"
	"pavane/syntax"
)

// The reference makes a list of lines of each part of a chart, with a space between any two words, and takes out by replacing those that do not belong there. What is a tree, it asks syntax: a chart is one if its lines parse to it. It shares nothing with the package.

var tight = strings.NewReplacer(" ;", ";", " ,", ",", " ]", "]", "[ ", "[")

// phrase is a line of words; empty ones count for nothing.
func phrase(words ...string) string {
	words = slices.DeleteFunc(words, func(s string) bool { return s == "" })
	return tight.Replace(strings.Join(words, " "))
}

// word is the keyword of a kind, or what no source holds.
func word(kind int, words ...string) string {
	if kind < 1 || kind > len(words) {
		return "$"
	}
	return words[kind-1]
}

func indented(l []string) []string {
	var out []string
	for _, s := range l {
		out = append(out, "  "+s)
	}
	return out
}

// reference is the formatted lines of a chart, and some text that is no source of it if it is no tree.
func reference(c api.Chart) string {
	var vars []string
	for _, v := range c.Vars {
		vars = append(vars, phrase("var", v.Name, "=", fmt.Sprint(v.Num), ";"))
	}
	l := append([]string{phrase("chart", c.Root.Name, "{")}, indented(append(vars, bodyLines(c.Root)...))...)
	return strings.Join(append(l, "}"), "\n") + "\n"
}

func bodyLines(n api.Node) []string {
	var l []string
	if n.Initial != "" {
		l = append(l, phrase("initial", n.Initial, ";"))
	}
	if len(n.Enter) > 0 {
		l = append(l, phrase("enter", blockText(n.Enter)))
	}
	if len(n.Leave) > 0 {
		l = append(l, phrase("leave", blockText(n.Leave)))
	}
	for _, m := range n.Moves {
		l = append(l, moveLine(m))
	}
	for _, kid := range n.Kids {
		l = append(l, nodeLines(kid)...)
	}
	return l
}

func nodeLines(n api.Node) []string {
	keyword := word(n.Kind, "state", "parallel", "history", "deep")
	if n.Kind == api.NodeHistory || n.Kind == api.NodeDeep {
		return []string{phrase(keyword, n.Name, "->", n.Default, ";")}
	}
	return append(append([]string{phrase(keyword, n.Name, "{")}, indented(bodyLines(n))...), "}")
}

func moveLine(m api.Move) string {
	words := []string{word(m.Kind, "on", "always", "after")}
	switch m.Kind {
	case api.MoveOn:
		words = append(words, m.Event)
	case api.MoveAfter:
		words = append(words, fmt.Sprint(m.Wait))
	}
	if m.Guarded {
		words = append(words, "[", expr.Text(m.Guard), "]")
	}
	if len(m.Actions) > 0 {
		words = append(words, blockText(m.Actions))
	}
	if len(m.Targets) > 0 {
		words = append(words, "->", strings.Join(m.Targets, ", "))
	}
	return phrase(append(words, ";")...)
}

func blockText(l []api.Action) string {
	words := []string{"{"}
	for _, a := range l {
		words = append(words, word(a.Kind, "set", "raise", "emit"), a.Name)
		if a.Kind != api.ActRaise {
			words = append(words, "=", expr.Text(a.Value))
		}
		words = append(words, ";")
	}
	return phrase(append(words, "}")...)
}

// couldBe reports whether a chart whose lines are not too long is what some source parses to.
func couldBe(c api.Chart) bool {
	d, f := syntax.Parse(reference(c))
	return f == (api.Fault{}) && shown(placeless(d)) == shown(placeless(c))
}

// shown is all of a value as a text, in which a nil list and an empty one are the same.
func shown(v any) string { return fmt.Sprintf("%+v", v) }

// short is what a message shows of a text.
func short(s string) string { return s[:min(len(s), 600)] }

// parsed is the tree of a source without a fault.
func parsed(t *testing.T, s string) api.Chart {
	t.Helper()
	c, f := syntax.Parse(s)
	if f != (api.Fault{}) {
		t.Fatalf("Parse of %d bytes %q: %v", len(s), short(s), f)
	}
	return c
}

// read is the tree of an expression without a fault.
func read(s string) api.Expr {
	x, f := expr.Read(s)
	if f != (api.Fault{}) {
		panic(s)
	}
	return x
}

// checkPrint holds a chart that has these lines.
func checkPrint(t *testing.T, c api.Chart, want string) {
	t.Helper()
	if s, code := printer.Print(c); s != want || code != api.OK {
		t.Errorf("Print of %s: %d bytes %q, %d; want %d bytes %q", short(shown(c)), len(s), short(s), code, len(want), short(want))
	}
	if code := printer.Right(c); code != api.OK {
		t.Errorf("Right of %s: %d", short(shown(c)), code)
	}
}

// checkError holds a chart that has no lines.
func checkError(t *testing.T, c api.Chart, want api.Errno) {
	t.Helper()
	if s, code := printer.Print(c); s != "" || code != want {
		t.Errorf("Print of %s: %d bytes %q, %d; want nothing and %d", short(shown(c)), len(s), short(s), code, want)
	}
	if code := printer.Right(c); code != want {
		t.Errorf("Right of %s: %d; want %d", short(shown(c)), code, want)
	}
}

func checkMove(t *testing.T, m api.Move, want string) {
	t.Helper()
	if s := printer.Move(m); s != want {
		t.Errorf("Move of %s: %d bytes %q; want %d bytes %q", short(shown(m)), len(s), short(s), len(want), short(want))
	}
}

// alone is a chart with a root named c, of one move only.
func alone(m api.Move) api.Chart {
	return api.Chart{Root: state("c", m)}
}

func state(name string, moves ...api.Move) api.Node {
	return api.Node{Kind: api.NodeState, Name: name, Moves: moves}
}

func around(kids ...api.Node) api.Node {
	return api.Node{Kind: api.NodeState, Name: "s", Kids: kids}
}

func many[E any](n int, e E) []E { return slices.Repeat([]E{e}, n) }

// parts are pointers to all that a chart holds.
type parts struct {
	vars  []*api.Var
	nodes []*api.Node
	moves []*api.Move
	acts  []*api.Action
	exprs []*api.Expr
}

func partsOf(c *api.Chart) parts {
	var p parts
	for i := range c.Vars {
		p.vars = append(p.vars, &c.Vars[i])
	}
	p.node(&c.Root)
	return p
}

func (p *parts) node(n *api.Node) {
	p.nodes = append(p.nodes, n)
	p.block(n.Enter)
	p.block(n.Leave)
	for i := range n.Moves {
		m := &n.Moves[i]
		p.moves = append(p.moves, m)
		p.expr(&m.Guard)
		p.block(m.Actions)
	}
	for i := range n.Kids {
		p.node(&n.Kids[i])
	}
}

func (p *parts) block(l []api.Action) {
	for i := range l {
		p.acts = append(p.acts, &l[i])
		p.expr(&l[i].Value)
	}
}

func (p *parts) expr(x *api.Expr) {
	p.exprs = append(p.exprs, x)
	for i := range x.Subs {
		p.expr(&x.Subs[i])
	}
}

// setAts writes over all offsets of a chart.
func setAts(c *api.Chart, at func() int) {
	p := partsOf(c)
	for _, v := range p.vars {
		v.At = at()
	}
	for _, n := range p.nodes {
		n.At = at()
	}
	for _, m := range p.moves {
		m.At = at()
	}
	for _, a := range p.acts {
		a.At = at()
	}
	for _, x := range p.exprs {
		x.At = at()
	}
}

// placeless is a chart without its offsets, in memory of its own.
func placeless(c api.Chart) api.Chart {
	c = copied(c)
	setAts(&c, func() int { return 0 })
	return c
}

// copied is a chart in memory of its own.
func copied(c api.Chart) api.Chart {
	c.Vars = slices.Clone(c.Vars)
	c.Root = copiedNode(c.Root)
	return c
}

func copiedNode(n api.Node) api.Node {
	n.Enter, n.Leave = copiedActs(n.Enter), copiedActs(n.Leave)
	n.Moves, n.Kids = slices.Clone(n.Moves), slices.Clone(n.Kids)
	for i := range n.Moves {
		n.Moves[i] = copiedMove(n.Moves[i])
	}
	for i := range n.Kids {
		n.Kids[i] = copiedNode(n.Kids[i])
	}
	return n
}

func copiedMove(m api.Move) api.Move {
	m.Guard, m.Actions, m.Targets = copiedExpr(m.Guard), copiedActs(m.Actions), slices.Clone(m.Targets)
	return m
}

func copiedActs(l []api.Action) []api.Action {
	l = slices.Clone(l)
	for i := range l {
		l[i].Value = copiedExpr(l[i].Value)
	}
	return l
}

func copiedExpr(x api.Expr) api.Expr {
	x.Subs = slices.Clone(x.Subs)
	for i := range x.Subs {
		x.Subs[i] = copiedExpr(x.Subs[i])
	}
	return x
}

// maker makes trees of charts; it has so many nodes, moves and acts left.
type maker struct {
	*rand.Rand
	nodes, moves, acts int
}

var someNames = []string{"a", "b", "c", "x1", "_", "inn", "On", "state_", "q", strings.Repeat("n", 24)}

var someExpressions = []string{"0", "n", "in(a)", "-n", "!in(state_)", "a - b - 1", "(a - b) * 2 <= c", "a && b || c", "9223372036854775807", strings.Repeat("-", 20) + "x", "a / (1 - (b - c % 3))"}

func (m *maker) name() string { return someNames[m.Intn(len(someNames))] }

func (m *maker) expression() api.Expr { return read(someExpressions[m.Intn(len(someExpressions))]) }

// few is a small number, no more than what is left of something, of which it takes so much.
func (m *maker) few(most int, left *int) int {
	n := min(m.Intn(most+1), *left)
	*left -= n
	return n
}

// anyChart is a tree of a chart with nodes nested in so many others.
func anyChart(r *rand.Rand, deep int) api.Chart {
	m := maker{r, 63, 200, 400}
	var c api.Chart
	for range r.Intn(4) * r.Intn(6) {
		c.Vars = append(c.Vars, api.Var{Name: m.name(), Num: []int{0, 1, -1, 20, api.MaxInt, -api.MaxInt}[r.Intn(6)]})
	}
	c.Root = m.state(api.NodeState, deep)
	return c
}

func (m *maker) state(kind, deep int) api.Node {
	n := api.Node{Kind: kind, Name: m.name(), Enter: m.block(), Leave: m.block()}
	if m.Intn(2) == 0 {
		n.Initial = m.name()
	}
	for range m.few(3, &m.moves) {
		n.Moves = append(n.Moves, m.move())
	}
	for range m.few(min(deep, 1)*3, &m.nodes) {
		n.Kids = append(n.Kids, m.node(deep-1))
	}
	return n
}

func (m *maker) node(deep int) api.Node {
	kind := 1 + m.Intn(4)
	if kind == api.NodeHistory || kind == api.NodeDeep {
		return api.Node{Kind: kind, Name: m.name(), Default: m.name()}
	}
	return m.state(kind, deep)
}

func (m *maker) move() api.Move {
	v := api.Move{Kind: 1 + m.Intn(3), Actions: m.block()}
	switch v.Kind {
	case api.MoveOn:
		v.Event = m.name()
	case api.MoveAfter:
		v.Wait = []int{0, 1, 30, api.MaxInt}[m.Intn(4)]
	}
	if v.Guarded = m.Intn(2) == 0; v.Guarded {
		v.Guard = m.expression()
	}
	for range m.Intn(3) {
		v.Targets = append(v.Targets, m.name())
	}
	return v
}

func (m *maker) block() []api.Action {
	var l []api.Action
	for range m.few(2, &m.acts) {
		a := api.Action{Kind: 1 + m.Intn(3), Name: m.name()}
		if a.Kind != api.ActRaise {
			a.Value = m.expression()
		}
		l = append(l, a)
	}
	return l
}
