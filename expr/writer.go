package expr

import (
	"strings"

	"pavane/api"
	"pavane/calc"
	"pavane/scan"
)

// The bindings of expressions: the lines of the grammar by number, the one for the loosest operators first.
const (
	bindOr = iota + 1
	bindAnd
	bindEqual
	bindOrder
	bindSum
	bindProduct
	bindOne
)

// writer writes the text of an expression, as far as the expression is right. Each of its methods that write reports whether that is so.
type writer struct {
	strings.Builder
	nodes int
	level int // how many levels are around what is written
}

func (w *writer) expression(x api.Expr) bool {
	if !w.count() || !formed(x) {
		return false
	}
	switch x.Kind {
	case api.ExprInt:
		return w.put(calc.Text(x.Num))
	case api.ExprVar:
		return w.put(x.Name)
	case api.ExprIn:
		return w.put("in(", x.Name, ")")
	case api.ExprOne:
		return w.enter(signs[x.Op]) && w.operand(x.Subs[0], bindOne) && w.leave("")
	}
	bind := binding(x.Op)
	return w.operand(x.Subs[0], bind) && w.put(" ", signs[x.Op], " ") && w.operand(x.Subs[1], bind+1)
}

// operand writes an expression, in parentheses if it binds its own operands looser than least.
func (w *writer) operand(x api.Expr, least int) bool {
	if x.Kind != api.ExprBoth || binding(x.Op) >= least {
		return w.expression(x)
	}
	return w.enter("(") && w.expression(x) && w.leave(")")
}

// count counts a node, and reports whether so many can be right: each has a byte of the text at least. So a tree that is too deep ends ahead of its first byte.
func (w *writer) count() bool {
	w.nodes++
	return w.nodes <= api.MaxSource
}

// enter writes a sign that adds a level.
func (w *writer) enter(sign string) bool {
	w.level++
	return w.level <= api.MaxNest && w.put(sign)
}

// leave writes a sign that ends a level.
func (w *writer) leave(sign string) bool {
	w.level--
	return w.put(sign)
}

func (w *writer) put(parts ...string) bool {
	for _, s := range parts {
		w.WriteString(s)
	}
	return w.Len() <= api.MaxSource
}

// formed reports whether a node has a form that Parse gives, whatever its operands are.
func formed(x api.Expr) bool {
	operator := x.Num == 0 && x.Name == ""
	leaf := x.Op == 0 && len(x.Subs) == 0
	switch x.Kind {
	case api.ExprInt:
		return leaf && x.Num >= 0 && x.Name == ""
	case api.ExprVar, api.ExprIn:
		return leaf && x.Num == 0 && scan.Name(x.Name)
	case api.ExprOne:
		return operator && (x.Op == api.OpNeg || x.Op == api.OpNot) && len(x.Subs) == 1
	case api.ExprBoth:
		return operator && binding(x.Op) != 0 && len(x.Subs) == 2
	}
	return false
}

// binding is how tight a binary operator binds its operands; 0 if it is none.
func binding(op int) int {
	switch op {
	case api.OpOr:
		return bindOr
	case api.OpAnd:
		return bindAnd
	case api.OpEq, api.OpNe:
		return bindEqual
	case api.OpLt, api.OpLe, api.OpGt, api.OpGe:
		return bindOrder
	case api.OpAdd, api.OpSub:
		return bindSum
	case api.OpMul, api.OpDiv, api.OpMod:
		return bindProduct
	}
	return 0
}
