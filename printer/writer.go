package printer

import (
	"strings"

	"pavane/api"
	"pavane/calc"
	"pavane/expr"
)

// writer writes the formatted lines of a tree.
type writer struct {
	strings.Builder
	level int    // how many nodes are around the line
	last  string // the word in front of the next one of the line; empty if there is none
}

// state writes a node with a body; the one with variables is the chart.
func (w *writer) state(word string, n api.Node, vars ...api.Var) {
	w.line(word, n.Name, "{")
	w.level++
	for _, v := range vars {
		w.line("var", v.Name, "=", calc.Text(v.Num), ";")
	}
	w.body(n)
	w.level--
	w.line("}")
}

func (w *writer) body(n api.Node) {
	if n.Initial != "" {
		w.line("initial", n.Initial, ";")
	}
	w.clause("enter", n.Enter)
	w.clause("leave", n.Leave)
	for _, m := range n.Moves {
		w.move(m)
	}
	for _, kid := range n.Kids {
		w.node(kid)
	}
}

func (w *writer) clause(word string, l []api.Action) {
	if len(l) > 0 {
		w.begin(word)
		w.block(l)
		w.end()
	}
}

func (w *writer) node(n api.Node) {
	switch n.Kind {
	case api.NodeState:
		w.state("state", n)
	case api.NodeParallel:
		w.state("parallel", n)
	case api.NodeHistory:
		w.line("history", n.Name, "->", n.Default, ";")
	case api.NodeDeep:
		w.line("deep", n.Name, "->", n.Default, ";")
	}
}

func (w *writer) move(m api.Move) {
	switch m.Kind {
	case api.MoveOn:
		w.begin("on", m.Event)
	case api.MoveAlways:
		w.begin("always")
	case api.MoveAfter:
		w.begin("after", calc.Text(m.Wait))
	}
	if m.Guarded {
		w.put("[", expr.Text(m.Guard), "]")
	}
	if len(m.Actions) > 0 {
		w.block(m.Actions)
	}
	sign := "->"
	for _, name := range m.Targets {
		w.put(sign, name)
		sign = ","
	}
	w.end(";")
}

func (w *writer) block(l []api.Action) {
	w.put("{")
	for _, a := range l {
		switch a.Kind {
		case api.ActSet:
			w.put("set", a.Name, "=", expr.Text(a.Value), ";")
		case api.ActRaise:
			w.put("raise", a.Name, ";")
		case api.ActEmit:
			w.put("emit", a.Name, "=", expr.Text(a.Value), ";")
		}
	}
	w.put("}")
}

// line writes a whole line.
func (w *writer) line(words ...string) {
	w.begin(words...)
	w.end()
}

// begin writes the first words of a line.
func (w *writer) begin(words ...string) {
	w.write(strings.Repeat("  ", w.level))
	w.put(words...)
}

// end writes the last words of a line.
func (w *writer) end(words ...string) {
	w.put(words...)
	w.write("\n")
	w.last = ""
}

// put writes words of a line.
func (w *writer) put(words ...string) {
	for _, word := range words {
		if isSpaced(w.last, word) {
			w.write(" ")
		}
		w.write(word)
		w.last = word
	}
}

// write writes no more once the text is too long, so that it does not grow with what cannot be printed anyway.
func (w *writer) write(s string) {
	if w.Len() <= api.MaxSource {
		w.WriteString(s)
	}
}

// isSpaced reports whether a space stands between a word and the one behind it.
func isSpaced(last, word string) bool {
	switch word {
	case ";", ",", "]":
		return false
	}
	return last != "" && last != "["
}
