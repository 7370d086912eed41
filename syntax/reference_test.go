package syntax_test

import (
	"fmt"
	"math/rand"
	"slices"
	"strings"
	"testing"

	"pavane/api"
	"pavane/expr"
	"pavane/scan"
	"pavane/syntax"
)

// The reference tells the fault of a source with the chapter's grammar as a table, a list of the symbols that are still to come, and no recursion. The writer tells the tree of a source, since it writes the source of a tree. Neither shares anything with the package.

// grammar is what a symbol stands for in front of a token; a symbol that has no line for it stands for nothing.
var grammar = map[string]string{
	"vars var":        "var name:vars = sign int ; vars",
	"sign -":          "-",
	"clauses initial": "once:initial initial name ; clauses",
	"clauses enter":   "once:enter enter { acts } clauses",
	"clauses leave":   "once:leave leave { acts } clauses",
	"clauses on":      "count:moves on name guard block arrow ; clauses",
	"clauses always":  "count:moves always guard block arrow ; clauses",
	"clauses after":   "count:moves after int guard block arrow ; clauses",
	"guard [":         "[ expr ]",
	"block {":         "{ acts }",
	"arrow ->":        "-> name more",
	"more ,":          ", name more",
	"acts set":        "count:acts set name = expr ; acts",
	"acts raise":      "count:acts raise name ; acts",
	"acts emit":       "count:acts emit name = expr ; acts",
	"kids state":      "state name:nodes { down clauses kids up } kids",
	"kids parallel":   "parallel name:nodes { down clauses kids up } kids",
	"kids history":    "history name:nodes -> name ; kids",
	"kids deep":       "deep name:nodes -> name ; kids",
}

const wholeChart = "chart name:nodes { vars down clauses kids up } end"

var limits = map[string]int{"vars": 16, "nodes": 64, "moves": 200, "acts": 400}

// machine is how far the reference has come: the symbols to come, how many of what is limited there were, and the clauses of the body.
type machine struct {
	tokens []api.Token
	todo   []string
	many   map[string]int
	seen   map[string]bool
	level  int
}

// referenceFault is the fault of a source.
func referenceFault(s string) api.Fault {
	l, fault := scan.Tokens(s)
	if fault.Code != api.OK {
		return fault
	}
	m := machine{l, strings.Fields(wholeChart), map[string]int{}, nil, 0}
	for len(m.todo) > 0 {
		symbol := m.todo[0]
		m.todo = m.todo[1:]
		if fault := m.step(symbol); fault.Code != api.OK {
			return fault
		}
	}
	return api.Fault{}
}

func (m *machine) step(symbol string) api.Fault {
	t := m.tokens[0]
	head, what, _ := strings.Cut(symbol, ":")
	switch head {
	case "vars", "sign", "clauses", "guard", "block", "arrow", "more", "acts", "kids":
		m.todo = append(strings.Fields(grammar[symbol+" "+t.Text]), m.todo...)
	case "down":
		m.level++
		m.seen = map[string]bool{}
	case "up":
		m.level--
	case "once":
		if m.seen[what] {
			return unfit(t)
		}
		m.seen[what] = true
	case "count":
		return m.count(what)
	case "expr":
		_, n, fault := expr.Parse(m.tokens, 0)
		m.tokens = m.tokens[n:]
		return fault
	case "name":
		return m.name(what)
	case "int":
		return m.token(t.Kind == api.TokInt)
	case "end":
		if t.Kind != api.TokEnd {
			return unfit(t)
		}
	default:
		return m.token(t.Text == symbol)
	}
	return api.Fault{}
}

func (m *machine) count(what string) api.Fault {
	if m.many[what] == limits[what] {
		return api.Fault{Code: api.ErrLong, At: m.tokens[0].At}
	}
	m.many[what]++
	return api.Fault{}
}

func (m *machine) name(what string) api.Fault {
	t := m.tokens[0]
	if t.Kind == api.TokName && what != "" {
		if fault := m.count(what); fault.Code != api.OK {
			return fault
		}
		if what == "nodes" && m.level == 12 {
			return api.Fault{Code: api.ErrNest, At: t.At}
		}
	}
	return m.token(t.Kind == api.TokName)
}

func (m *machine) token(fits bool) api.Fault {
	if !fits {
		return unfit(m.tokens[0])
	}
	m.tokens = m.tokens[1:]
	return api.Fault{}
}

func unfit(t api.Token) api.Fault {
	if t.Kind == api.TokEnd {
		return api.Fault{Code: api.ErrEnd, At: t.At}
	}
	return api.Fault{Code: api.ErrForm, At: t.At}
}

// writer writes the source of a tree. Each of its methods gives the tree back with the offsets that it has there.
type writer struct {
	*rand.Rand
	strings.Builder
	spaces []string // what may stand between tokens
	blocks bool     // whether empty blocks are written now and then
}

var someSpaces = []string{" ", "\n", "\t", "\r\n", "  ", "// state x { 1a $\n", "//\n\t", "////\r->\n"}

// put writes tokens, and tells where the first one stands.
func (w *writer) put(texts ...string) int {
	first := -1
	for _, text := range texts {
		s := w.String()
		if strings.HasSuffix(s, "/") { // a comment would begin a byte too early
			w.WriteString(" ")
		} else if s != "" && wordy(s[len(s)-1]) && wordy(text[0]) || w.Intn(2) == 0 {
			w.WriteString(w.spaces[w.Intn(len(w.spaces))])
		}
		if first < 0 {
			first = w.Len()
		}
		w.WriteString(text)
	}
	return first
}

func wordy(b byte) bool {
	return b == '_' || '0' <= b && b <= '9' || 'A' <= b && b <= 'Z' || 'a' <= b && b <= 'z'
}

func (w *writer) chart(c api.Chart) api.Chart {
	w.put("chart")
	c.Root.At = w.put(c.Root.Name)
	w.put("{")
	c.Vars = slices.Clone(c.Vars)
	for i := range c.Vars {
		v := &c.Vars[i]
		w.put("var")
		v.At = w.put(v.Name)
		w.put("=")
		w.integer(v.Num)
		w.put(";")
	}
	w.body(&c.Root)
	w.put("}")
	return c
}

func (w *writer) integer(n int) {
	if n < 0 {
		w.put("-")
		n = -n
	}
	w.put(fmt.Sprint(n))
}

// body writes the clauses, in any order, and the nodes.
func (w *writer) body(n *api.Node) {
	clauses := []func(){}
	if n.Initial != "" {
		clauses = append(clauses, func() { w.put("initial", n.Initial, ";") })
	}
	clauses = append(clauses, func() { n.Enter = w.block(n.Enter, "enter") }, func() { n.Leave = w.block(n.Leave, "leave") })
	n.Moves = slices.Clone(n.Moves)
	next := 0
	for range n.Moves {
		clauses = append(clauses, func() { w.move(&n.Moves[next]); next++ })
	}
	w.Shuffle(len(clauses), func(i, j int) { clauses[i], clauses[j] = clauses[j], clauses[i] })
	for _, write := range clauses {
		write()
	}
	n.Kids = slices.Clone(n.Kids)
	for i := range n.Kids {
		w.node(&n.Kids[i])
	}
}

// block writes a block behind these words; one without acts may be missing, words and all.
func (w *writer) block(l []api.Action, words ...string) []api.Action {
	if len(l) == 0 && !(w.blocks && w.Intn(2) == 0) {
		return nil
	}
	w.put(append(words, "{")...)
	l = slices.Clone(l)
	for i := range l {
		a := &l[i]
		a.At = w.put([]string{"", "set", "raise", "emit"}[a.Kind])
		w.put(a.Name)
		if a.Kind != api.ActRaise {
			w.put("=")
			a.Value = w.expression(a.Value)
		}
		w.put(";")
	}
	w.put("}")
	return l
}

// expression writes the text of an expression, as it is; expr tells the offsets in it.
func (w *writer) expression(x api.Expr) api.Expr {
	text := expr.Text(x)
	at := w.put(text)
	x, _ = expr.Read(text)
	return shifted(x, at)
}

func shifted(x api.Expr, by int) api.Expr {
	x.At += by
	x.Subs = slices.Clone(x.Subs)
	for i := range x.Subs {
		x.Subs[i] = shifted(x.Subs[i], by)
	}
	return x
}

func (w *writer) move(m *api.Move) {
	m.At = w.put([]string{"", "on", "always", "after"}[m.Kind])
	switch m.Kind {
	case api.MoveOn:
		w.put(m.Event)
	case api.MoveAfter:
		w.integer(m.Wait)
	}
	if m.Guarded {
		w.put("[")
		m.Guard = w.expression(m.Guard)
		w.put("]")
	}
	m.Actions = w.block(m.Actions)
	for i, target := range m.Targets {
		w.put([]string{"->", ","}[min(i, 1)], target)
	}
	w.put(";")
}

func (w *writer) node(n *api.Node) {
	w.put([]string{"", "state", "parallel", "history", "deep"}[n.Kind])
	n.At = w.put(n.Name)
	if n.Kind == api.NodeHistory || n.Kind == api.NodeDeep {
		w.put("->", n.Default, ";")
		return
	}
	w.put("{")
	w.body(n)
	w.put("}")
}

// maker makes trees of charts; it has so many nodes, moves and acts left.
type maker struct {
	*rand.Rand
	nodes, moves, acts int
}

var someNames = []string{"a", "b", "c", "x1", "_", "inn", "On", "state_", "q", strings.Repeat("n", 24)}

var someExpressions = []string{"0", "n", "in(a)", "-n", "!in(state_)", "a - b - 1", "(a - b) * 2 <= c", "a && b || c", "9223372036854775807", strings.Repeat("-", 20) + "x", "a / (1 - (b - c % 3))"}

func (m *maker) name() string { return someNames[m.Intn(len(someNames))] }

func (m *maker) expression() api.Expr {
	x, _ := expr.Read(someExpressions[m.Intn(len(someExpressions))])
	return x
}

// few is a small number, no more than what is left of something, of which it takes so much.
func (m *maker) few(most int, left *int) int {
	n := min(m.Intn(most+1), *left)
	*left -= n
	return n
}

// anyChart is a tree of a chart with nodes nested in so many others.
func anyChart(r *rand.Rand, deep int) api.Chart {
	m := maker{r, 63, 200, 400}
	var c api.Chart
	for range r.Intn(4) * r.Intn(6) {
		c.Vars = append(c.Vars, api.Var{Name: m.name(), Num: []int{0, 1, -1, 20, api.MaxInt, -api.MaxInt}[r.Intn(6)]})
	}
	c.Root = m.state(api.NodeState, deep)
	return c
}

func (m *maker) state(kind, deep int) api.Node {
	n := api.Node{Kind: kind, Name: m.name(), Enter: m.block(), Leave: m.block()}
	if m.Intn(2) == 0 {
		n.Initial = m.name()
	}
	for range m.few(3, &m.moves) {
		n.Moves = append(n.Moves, m.move())
	}
	for range m.few(min(deep, 1)*3, &m.nodes) {
		n.Kids = append(n.Kids, m.node(deep-1))
	}
	return n
}

func (m *maker) node(deep int) api.Node {
	kind := 1 + m.Intn(4)
	if kind == api.NodeHistory || kind == api.NodeDeep {
		return api.Node{Kind: kind, Name: m.name(), Default: m.name()}
	}
	return m.state(kind, deep)
}

func (m *maker) move() api.Move {
	v := api.Move{Kind: 1 + m.Intn(3), Actions: m.block()}
	switch v.Kind {
	case api.MoveOn:
		v.Event = m.name()
	case api.MoveAfter:
		v.Wait = []int{0, 1, 30, api.MaxInt}[m.Intn(4)]
	}
	if v.Guarded = m.Intn(2) == 0; v.Guarded {
		v.Guard = m.expression()
	}
	for range m.Intn(3) {
		v.Targets = append(v.Targets, m.name())
	}
	return v
}

func (m *maker) block() []api.Action {
	var l []api.Action
	for range m.few(2, &m.acts) {
		a := api.Action{Kind: 1 + m.Intn(3), Name: m.name()}
		if a.Kind != api.ActRaise {
			a.Value = m.expression()
		}
		l = append(l, a)
	}
	return l
}

// written is a source of a tree, and the tree with its offsets there.
func written(r *rand.Rand, c api.Chart) (string, api.Chart) {
	w := writer{Rand: r, spaces: someSpaces, blocks: true}
	c = w.chart(c)
	return w.String(), c
}

// shown is all of a value as a text, in which a nil list and an empty one are the same.
func shown(v any) string { return fmt.Sprintf("%+v", v) }

// short is what a message shows of a text.
func short(s string) string { return s[:min(len(s), 600)] }

// placeless is a chart without its offsets, in memory of its own.
func placeless(c api.Chart) api.Chart {
	c.Vars = slices.Clone(c.Vars)
	for i := range c.Vars {
		c.Vars[i].At = 0
	}
	c.Root = placelessNode(c.Root)
	return c
}

func placelessNode(n api.Node) api.Node {
	n.At = 0
	n.Enter, n.Leave = placelessActs(n.Enter), placelessActs(n.Leave)
	n.Moves, n.Kids = slices.Clone(n.Moves), slices.Clone(n.Kids)
	for i := range n.Moves {
		m := &n.Moves[i]
		m.At, m.Guard, m.Actions = 0, placelessExpr(m.Guard), placelessActs(m.Actions)
	}
	for i := range n.Kids {
		n.Kids[i] = placelessNode(n.Kids[i])
	}
	return n
}

func placelessActs(l []api.Action) []api.Action {
	l = slices.Clone(l)
	for i := range l {
		l[i].At, l[i].Value = 0, placelessExpr(l[i].Value)
	}
	return l
}

func placelessExpr(x api.Expr) api.Expr {
	x.At = 0
	x.Subs = slices.Clone(x.Subs)
	for i := range x.Subs {
		x.Subs[i] = placelessExpr(x.Subs[i])
	}
	return x
}

// parsed is the tree of a source without a fault.
func parsed(t *testing.T, s string) api.Chart {
	t.Helper()
	c, f := syntax.Parse(s)
	if f != (api.Fault{}) {
		t.Fatalf("Parse of %d bytes %q: %v", len(s), short(s), f)
	}
	return c
}

func checkTree(t *testing.T, s string, want api.Chart) {
	t.Helper()
	if c, f := syntax.Parse(s); f != (api.Fault{}) || shown(c) != shown(want) {
		t.Errorf("Parse(%q): %s, %v; want %s", short(s), short(shown(c)), f, short(shown(want)))
	}
}

func checkFault(t *testing.T, s string, want api.Fault) {
	t.Helper()
	if c, f := syntax.Parse(s); f != want || shown(c) != shown(api.Chart{}) {
		t.Errorf("Parse of %d bytes %q: %s, %v; want nothing and %v", len(s), short(s), short(shown(c)), f, want)
	}
}

// checkAt holds a fault that stands where the source has a mark, which is left out.
func checkAt(t *testing.T, s string, code api.Errno) {
	t.Helper()
	at := strings.Index(s, "@")
	if at < 0 || strings.Count(s, "@") > 1 {
		t.Fatalf("%q has not one mark", short(s))
	}
	checkFault(t, s[:at]+s[at+1:], api.Fault{Code: code, At: at})
}
