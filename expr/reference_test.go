package expr_test

import (
	"fmt"
	"math/rand"
	"slices"
	"strconv"
	"strings"
	"testing"

	"pavane/api"
	"pavane/expr"
	"pavane/scan"
)

// The reference parses with a stack and no recursion, and asks the chapter's lines of operators; it shares nothing with the package.

var referenceLines = [][]string{{"||"}, {"&&"}, {"==", "!="}, {"<", "<=", ">", ">="}, {"+", "-"}, {"*", "/", "%"}}

var referenceOps = map[string]int{
	"+": api.OpAdd, "-": api.OpSub, "*": api.OpMul, "/": api.OpDiv, "%": api.OpMod,
	"<": api.OpLt, "<=": api.OpLe, ">": api.OpGt, ">=": api.OpGe, "==": api.OpEq, "!=": api.OpNe,
	"&&": api.OpAnd, "||": api.OpOr,
}

// lineOf is the number of the line of a binary operator's sign, and -1 if it is none.
func lineOf(sign string) int {
	return slices.IndexFunc(referenceLines, func(l []string) bool { return slices.Contains(l, sign) })
}

// signOf is the sign of a binary operator, and empty if it is none.
func signOf(op int) string {
	for sign, o := range referenceOps {
		if o == op {
			return sign
		}
	}
	return ""
}

// pending is a sign on the reference's stack: of line -1 if it adds a level.
type pending struct {
	sign string
	line int
	at   int
}

type stack struct {
	signs    []pending
	operands []api.Expr
}

func (s *stack) top() pending {
	if len(s.signs) == 0 {
		return pending{line: -1}
	}
	return s.signs[len(s.signs)-1]
}

func (s *stack) levels() int {
	n := 0
	for _, p := range s.signs {
		if p.line < 0 {
			n++
		}
	}
	return n
}

// finish applies the signs in front of the operand that has just ended.
func (s *stack) finish() {
	for s.top().sign == "-" && s.top().line < 0 || s.top().sign == "!" {
		op := map[string]int{"-": api.OpNeg, "!": api.OpNot}[s.top().sign]
		last := len(s.operands) - 1
		s.operands[last] = api.Expr{Kind: api.ExprOne, Op: op, Subs: []api.Expr{s.operands[last]}, At: s.top().at}
		s.signs = s.signs[:len(s.signs)-1]
	}
}

// apply applies the binary operators on top that belong to this line or to a later one.
func (s *stack) apply(line int) {
	for s.top().line >= line {
		last := len(s.operands) - 2
		x, y := s.operands[last], s.operands[last+1]
		s.operands = append(s.operands[:last], api.Expr{Kind: api.ExprBoth, Op: referenceOps[s.top().sign], Subs: []api.Expr{x, y}, At: x.At})
		s.signs = s.signs[:len(s.signs)-1]
	}
}

func isSign(t api.Token, signs ...string) bool {
	return t.Kind == api.TokSign && slices.Contains(signs, t.Text)
}

func unfit(t api.Token) api.Fault {
	if t.Kind == api.TokEnd {
		return api.Fault{Code: api.ErrEnd, At: t.At}
	}
	return api.Fault{Code: api.ErrForm, At: t.At}
}

// reference parses what begins at a token, where the last token is the only end.
func reference(l []api.Token, at int) (api.Expr, int, api.Fault) {
	var s stack
	for behind := false; ; at++ { // behind an operand
		t := l[at]
		switch {
		case !behind && isSign(t, "-", "!", "("):
			if s.levels() == 20 {
				return api.Expr{}, 0, api.Fault{Code: api.ErrNest, At: t.At}
			}
			s.signs = append(s.signs, pending{t.Text, -1, t.At})
			continue
		case !behind:
			x, many, fault := referenceLeaf(l[at:])
			if fault.Code != api.OK {
				return api.Expr{}, 0, fault
			}
			s.operands = append(s.operands, x)
			at += many - 1
		case t.Kind == api.TokSign && lineOf(t.Text) >= 0:
			s.apply(lineOf(t.Text))
			s.signs = append(s.signs, pending{t.Text, lineOf(t.Text), t.At})
			behind = false
			continue
		default:
			s.apply(0)
			if len(s.signs) == 0 {
				return s.operands[0], at, api.Fault{}
			}
			if !isSign(t, ")") {
				return api.Expr{}, 0, unfit(t)
			}
			s.signs = s.signs[:len(s.signs)-1]
		}
		s.finish()
		behind = true
	}
}

// referenceLeaf is the integer, the variable or the test of a state that tokens begin with, and how many tokens it takes.
func referenceLeaf(l []api.Token) (api.Expr, int, api.Fault) {
	switch t := l[0]; {
	case t.Kind == api.TokInt && t.Num >= 0:
		return api.Expr{Kind: api.ExprInt, Num: t.Num, At: t.At}, 1, api.Fault{}
	case t.Kind == api.TokName && scan.Name(t.Text):
		return api.Expr{Kind: api.ExprVar, Name: t.Text, At: t.At}, 1, api.Fault{}
	case t.Kind != api.TokWord || t.Text != "in":
		return api.Expr{}, 0, unfit(t)
	case !isSign(l[1], "("):
		return api.Expr{}, 0, unfit(l[1])
	case l[2].Kind != api.TokName || !scan.Name(l[2].Text):
		return api.Expr{}, 0, unfit(l[2])
	case !isSign(l[3], ")"):
		return api.Expr{}, 0, unfit(l[3])
	}
	return api.Expr{Kind: api.ExprIn, Name: l[2].Text, At: l[0].At}, 4, api.Fault{}
}

// referenceText is the text of a tree whose nodes have the chapter's form, however long it is.
func referenceText(x api.Expr) string {
	var b strings.Builder
	writeText(&b, x)
	return b.String()
}

func writeText(b *strings.Builder, x api.Expr) {
	switch x.Kind {
	case api.ExprInt:
		b.WriteString(strconv.Itoa(x.Num))
	case api.ExprVar:
		b.WriteString(x.Name)
	case api.ExprIn:
		b.WriteString("in(" + x.Name + ")")
	case api.ExprOne:
		b.WriteString(map[int]string{api.OpNeg: "-", api.OpNot: "!"}[x.Op])
		writeOperand(b, x.Subs[0], x.Subs[0].Kind == api.ExprBoth)
	case api.ExprBoth:
		left, right, line := x.Subs[0], x.Subs[1], lineOf(signOf(x.Op))
		writeOperand(b, left, left.Kind == api.ExprBoth && lineOf(signOf(left.Op)) < line)
		b.WriteString(" " + signOf(x.Op) + " ")
		writeOperand(b, right, right.Kind == api.ExprBoth && lineOf(signOf(right.Op)) <= line)
	}
}

func writeOperand(b *strings.Builder, x api.Expr, enclosed bool) {
	if !enclosed {
		writeText(b, x)
		return
	}
	b.WriteString("(")
	writeText(b, x)
	b.WriteString(")")
}

func integer(n int) api.Expr     { return api.Expr{Kind: api.ExprInt, Num: n} }
func variable(s string) api.Expr { return api.Expr{Kind: api.ExprVar, Name: s} }
func in(s string) api.Expr       { return api.Expr{Kind: api.ExprIn, Name: s} }
func one(op int, x api.Expr) api.Expr {
	return api.Expr{Kind: api.ExprOne, Op: op, Subs: []api.Expr{x}}
}
func both(x api.Expr, sign string, y api.Expr) api.Expr {
	return api.Expr{Kind: api.ExprBoth, Op: referenceOps[sign], Subs: []api.Expr{x, y}}
}

// placed is a node at an offset.
func placed(at int, x api.Expr) api.Expr {
	x.At = at
	return x
}

// anyTree is a tree of at most so many nodes within each other.
func anyTree(r *rand.Rand, deep int) api.Expr {
	if deep == 1 || r.Intn(6) == 0 {
		switch r.Intn(5) {
		case 0:
			return integer([]int{0, 1, 7, 100, api.MaxInt}[r.Intn(5)])
		case 1:
			return in([]string{"s", "s2", "_", "inn"}[r.Intn(4)])
		}
		return variable([]string{"a", "b", "x1", "_", "In", strings.Repeat("q", api.MaxName)}[r.Intn(6)])
	}
	if r.Intn(4) == 0 {
		return one(api.OpNeg+r.Intn(2), anyTree(r, deep-1))
	}
	return api.Expr{Kind: api.ExprBoth, Op: api.OpAdd + r.Intn(13), Subs: []api.Expr{anyTree(r, deep-1), anyTree(r, deep-1)}}
}

// same compares trees with their offsets; a nil list and an empty one are the same.
func same(x, y api.Expr) bool {
	return x.Kind == y.Kind && x.Num == y.Num && x.Name == y.Name && x.Op == y.Op && x.At == y.At && slices.EqualFunc(x.Subs, y.Subs, same)
}

// placeless is a tree without its offsets, in memory of its own.
func placeless(x api.Expr) api.Expr {
	x.At = 0
	x.Subs = slices.Clone(x.Subs)
	for i := range x.Subs {
		x.Subs[i] = placeless(x.Subs[i])
	}
	return x
}

// isZero reports whether nothing of a node is set.
func isZero(x api.Expr) bool { return same(x, api.Expr{}) }

// start is what a message shows of a text.
func start(s string) string { return s[:min(len(s), 60)] }

// shown is what a message shows of a tree.
func shown(x api.Expr) string {
	s := fmt.Sprintf("%+v", x)
	return s[:min(len(s), 400)]
}

// tokens are those of a source without an error.
func tokens(t *testing.T, s string) []api.Token {
	t.Helper()
	l, f := scan.Tokens(s)
	if f != (api.Fault{}) {
		t.Fatalf("Tokens(%q): %v", start(s), f)
	}
	return l
}

// read is the tree of a text without an error.
func read(t *testing.T, s string) api.Expr {
	t.Helper()
	x, f := expr.Read(s)
	if f != (api.Fault{}) {
		t.Fatalf("Read(%q): %v", start(s), f)
	}
	return x
}
