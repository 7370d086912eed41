package printer_test

import (
	"fmt"
	"math/rand"
	"strings"
	"testing"

	"pavane/api"
	"pavane/printer"
)

const exampleSource = "chart c{var n=-2;state a{on go[n<0]{set n=n+1;raise x;}->b,a;enter{}}deep h->a;}"

const exampleLines = `chart c {
  var n = -2;
  state a {
    on go [n < 0] { set n = n + 1; raise x; } -> b, a;
  }
  deep h -> a;
}
`

// P8.1: the document's example.
func TestPrintExample(t *testing.T) {
	checkPrint(t, parsed(t, exampleSource), exampleLines)
}

const allSource = `chart all{var a=0;var b=-9223372036854775807;var c=9223372036854775807;
on x{emit m=in(s);}; // the first move
leave{raise y;set a=-(a+b)*2;}always;initial s;after 0[!a]->s;
enter{set a=1;}on y;
state s{after 9223372036854775807{raise z;raise z;}->s,p,h,d;always[(a)]->p;
state inner{initial _;}}
parallel p{enter{emit a=a-(b-c);}leave{}
initial q;history h->s;deep d->inner;
}}`

const allLines = `chart all {
  var a = 0;
  var b = -9223372036854775807;
  var c = 9223372036854775807;
  initial s;
  enter { set a = 1; }
  leave { raise y; set a = -(a + b) * 2; }
  on x { emit m = in(s); };
  always;
  after 0 [!a] -> s;
  on y;
  state s {
    after 9223372036854775807 { raise z; raise z; } -> s, p, h, d;
    always [a] -> p;
    state inner {
      initial _;
    }
  }
  parallel p {
    initial q;
    enter { emit a = a - (b - c); }
    history h -> s;
    deep d -> inner;
  }
}
`

// P8.1: each line of a chart, whatever the order of the clauses in the source is; moves and nodes keep theirs.
func TestPrintAll(t *testing.T) {
	checkPrint(t, parsed(t, allSource), allLines)
}

// P8.1: charts and nodes of no lines within.
func TestPrintEmpty(t *testing.T) {
	checkPrint(t, api.Chart{Root: state("c")}, "chart c {\n}\n")
	checkPrint(t, api.Chart{Root: around(state("a"), state("b"))}, "chart s {\n  state a {\n  }\n  state b {\n  }\n}\n")
	checkPrint(t, api.Chart{Vars: []api.Var{{Name: "c"}}, Root: state("c")}, "chart c {\n  var c = 0;\n}\n")
	checkPrint(t, api.Chart{Root: around(api.Node{Kind: api.NodeParallel, Name: "p"})}, "chart s {\n  parallel p {\n  }\n}\n")
}

// P8.1, W5: an empty list is as none.
func TestPrintEmptyLists(t *testing.T) {
	leaf := api.Expr{Kind: api.ExprVar, Name: "n", Subs: []api.Expr{}}
	m := api.Move{Kind: api.MoveAlways, Guard: api.Expr{Subs: []api.Expr{}}, Actions: []api.Action{}, Targets: []string{}}
	raise := api.Action{Kind: api.ActRaise, Name: "e", Value: api.Expr{Subs: []api.Expr{}}}
	n := api.Node{Kind: api.NodeState, Name: "c", Enter: []api.Action{}, Leave: []api.Action{}, Kids: []api.Node{}}
	n.Moves = []api.Move{m, {Kind: api.MoveAlways, Guarded: true, Guard: leaf, Actions: []api.Action{raise}}}
	h := api.Node{Kind: api.NodeHistory, Name: "h", Default: "a", Enter: []api.Action{}, Leave: []api.Action{}, Moves: []api.Move{}, Kids: []api.Node{}}
	d := h
	d.Kind = api.NodeDeep
	c := api.Chart{Vars: []api.Var{}, Root: n}
	c.Root.Kids = []api.Node{h, d}
	checkPrint(t, c, "chart c {\n  always;\n  always [n] { raise e; };\n  history h -> a;\n  deep h -> a;\n}\n")
	checkMove(t, m, "always;")
}

// P8.1: the lines are indented by the nodes around them.
func TestPrintIndentation(t *testing.T) {
	for deep := 1; deep <= api.MaxDeep; deep++ {
		var first, last []string
		n := api.Node{Kind: api.NodeHistory, Name: "h", Default: "s"}
		for i := range deep - 1 {
			n = api.Node{Kind: api.NodeState + i%2, Name: "s", Initial: "s", Kids: []api.Node{n}}
		}
		c := api.Chart{Root: n}
		if deep == 1 {
			c.Root = state("s")
		}
		c.Root.Kind = api.NodeState
		for i := range deep - 1 {
			indent := strings.Repeat("  ", i)
			keyword := []string{"state", "parallel"}[(deep-2-i)%2]
			if i == 0 {
				keyword = "chart"
			}
			first = append(first, indent+keyword+" s {", indent+"  initial s;")
			last = append([]string{indent + "}"}, last...)
		}
		first = append(first, strings.Repeat("  ", deep-1)+"history h -> s;")
		if deep == 1 {
			first = []string{"chart s {", "}"}
		}
		checkPrint(t, c, strings.Join(append(first, last...), "\n")+"\n")
	}
}

// moveLines are moves of each kind, with and without each part.
func moveLines() map[string]api.Move {
	guard := read("n<0")
	acts := []api.Action{{Kind: api.ActSet, Name: "n", Value: read("n+1")}, {Kind: api.ActRaise, Name: "x"}, {Kind: api.ActEmit, Name: "m", Value: read("(a)")}}
	l := map[string]api.Move{}
	for head, m := range map[string]api.Move{
		"on go": {Kind: api.MoveOn, Event: "go"}, "always": {Kind: api.MoveAlways},
		"after 0": {Kind: api.MoveAfter}, "after 1099511627777": {Kind: api.MoveAfter, Wait: api.MaxTick + 1},
	} {
		for guarded := range 2 {
			for many := range len(acts) + 1 {
				for targets := range 4 {
					line := head
					m.Guarded, m.Guard = guarded == 1, api.Expr{}
					if m.Guarded {
						m.Guard = guard
						line += " [n < 0]"
					}
					m.Actions = acts[:many]
					line += []string{"", " { set n = n + 1; }", " { set n = n + 1; raise x; }", " { set n = n + 1; raise x; emit m = a; }"}[many]
					m.Targets = []string{"b", "a", "b"}[:targets]
					line += []string{"", " -> b", " -> b, a", " -> b, a, b"}[targets]
					l[line+";"] = m
				}
			}
		}
	}
	return l
}

// P8.1: the line of a move of each form, alone and in a chart.
func TestMove(t *testing.T) {
	l := moveLines()
	if len(l) != 4*2*4*4 {
		t.Fatalf("%d moves", len(l))
	}
	for line, m := range l {
		checkMove(t, m, line)
		checkPrint(t, alone(m), "chart c {\n  "+line+"\n}\n")
		checkPrint(t, api.Chart{Root: around(state("c", m, m))}, fmt.Sprintf("chart s {\n  state c {\n    %s\n    %s\n  }\n}\n", line, line))
	}
}

// P8.1: blocks of nodes, and acts whose expressions need parentheses or hold signs.
func TestPrintBlocks(t *testing.T) {
	for text, want := range map[string]string{
		"{set a=b;}": "{ set a = b; }", "{raise a;}": "{ raise a; }", "{emit a=-1;}": "{ emit a = -1; }",
		"{set a=(in(b));raise c;emit d=!(e||f);}": "{ set a = in(b); raise c; emit d = !(e || f); }",
		"{raise a;raise a;}":                      "{ raise a; raise a; }",
	} {
		for _, keyword := range []string{"enter", "leave"} {
			checkPrint(t, parsed(t, "chart c{"+keyword+text+"}"), "chart c {\n  "+keyword+" "+want+"\n}\n")
		}
		checkPrint(t, parsed(t, "chart c{enter"+text+"state s{leave"+text+"}}"), "chart c {\n  enter "+want+"\n  state s {\n    leave "+want+"\n  }\n}\n")
		checkPrint(t, parsed(t, "chart c{on e"+text+";}"), "chart c {\n  on e "+want+";\n}\n")
	}
}

// P8.1: trees of any form, against the reference.
func TestPrintRandom(t *testing.T) {
	r := rand.New(rand.NewSource(21))
	for range 1500 {
		c := anyChart(r, r.Intn(5))
		want := reference(c)
		if len(want) > api.MaxSource {
			checkError(t, c, api.ErrLong)
			continue
		}
		checkPrint(t, c, want)
		for _, m := range partsOf(&c).moves {
			checkMove(t, *m, moveLine(*m))
		}
		if t.Failed() {
			return
		}
	}
}

// W2: a chart is formatted the same, whatever was formatted before.
func TestPrintAgain(t *testing.T) {
	r := rand.New(rand.NewSource(22))
	for range 200 {
		c := anyChart(r, 2)
		s, code := printer.Print(c)
		printer.Print(anyChart(r, 3))
		printer.Move(api.Move{})
		if again, code2 := printer.Print(c); again != s || code2 != code {
			t.Fatalf("Print: %q, and then %q", short(s), short(again))
		}
	}
}
