package eval_test

import (
	"fmt"
	"math/rand"
	"slices"
	"testing"

	"pavane/api"
	"pavane/calc"
	"pavane/eval"
	"pavane/expr"
)

// The reference evaluates with a stack and no recursion, by the chapter's words one after the other; it shares nothing with the package but calc.

// pending is a node whose operands are being evaluated: how many have been, and their values.
type pending struct {
	x      api.Expr
	many   int
	values [2]int
}

// reference is the evaluation of a tree.
func reference(x api.Expr, e api.Env) (int, api.Errno) {
	stack := []pending{{x: x}}
	for {
		top := &stack[len(stack)-1]
		n, next, code := referenceStep(top, e)
		if code != api.OK {
			return 0, code
		}
		if next >= 0 {
			stack = append(stack, pending{x: top.x.Subs[next]})
			continue
		}
		stack = stack[:len(stack)-1]
		if len(stack) == 0 {
			return n, api.OK
		}
		above := &stack[len(stack)-1]
		above.values[above.many] = n
		above.many++
	}
}

// referenceStep is the value of a node, or which operand it needs ahead of it (-1: none), or its error.
func referenceStep(p *pending, e api.Env) (int, int, api.Errno) {
	operands, known := map[int]int{api.ExprInt: 0, api.ExprVar: 0, api.ExprIn: 0, api.ExprOne: 1, api.ExprBoth: 2}[p.x.Kind]
	if !known || len(p.x.Subs) != operands {
		return 0, -1, api.ErrTree
	}
	if p.x.Kind == api.ExprBoth && p.many == 1 {
		if p.x.Op == api.OpAnd && p.values[0] == 0 {
			return 0, -1, api.OK
		}
		if p.x.Op == api.OpOr && p.values[0] != 0 {
			return 1, -1, api.OK
		}
	}
	if p.many < operands {
		return 0, p.many, api.OK
	}
	n, code := referenceValue(p, e)
	return n, -1, code
}

func referenceValue(p *pending, e api.Env) (int, api.Errno) {
	switch p.x.Kind {
	case api.ExprInt:
		return p.x.Num, api.OK
	case api.ExprOne:
		return calc.One(p.x.Op, p.values[0])
	case api.ExprBoth:
		return calc.Do(p.x.Op, p.values[0], p.values[1])
	case api.ExprIn:
		for _, name := range e.Active {
			if name == p.x.Name {
				return 1, api.OK
			}
		}
		return 0, api.OK
	}
	for i, name := range e.Names {
		if name == p.x.Name && i < len(e.Nums) {
			return e.Nums[i], api.OK
		}
		if name == p.x.Name {
			break
		}
	}
	return 0, api.ErrName
}

// referenceNames are the names of the nodes of a kind, from all nodes in a row.
func referenceNames(x api.Expr, kind int) []string {
	var l []string
	for rest := []api.Expr{x}; len(rest) > 0; rest = rest[1:] {
		if rest[0].Kind == kind {
			l = append(l, rest[0].Name)
		}
		rest = append(rest, rest[0].Subs...)
	}
	slices.Sort(l)
	return slices.Compact(l)
}

func integer(n int) api.Expr     { return api.Expr{Kind: api.ExprInt, Num: n} }
func variable(s string) api.Expr { return api.Expr{Kind: api.ExprVar, Name: s} }
func in(s string) api.Expr       { return api.Expr{Kind: api.ExprIn, Name: s} }
func one(op int, x api.Expr) api.Expr {
	return api.Expr{Kind: api.ExprOne, Op: op, Subs: []api.Expr{x}}
}
func both(op int, x, y api.Expr) api.Expr {
	return api.Expr{Kind: api.ExprBoth, Op: op, Subs: []api.Expr{x, y}}
}

// failing are expressions, each with the error of its evaluation, whatever the environment.
func failing() map[api.Errno]api.Expr {
	return map[api.Errno]api.Expr{
		api.ErrDiv:  both(api.OpDiv, integer(1), integer(0)),
		api.ErrOp:   one(api.OpAdd, integer(1)),
		api.ErrTree: {},
		api.ErrName: variable("nobody"),
	}
}

// document is the environment of the document's examples.
func document() api.Env {
	return api.Env{Names: []string{"x", "y"}, Nums: []int{7, 0}, Active: []string{"s1"}}
}

// numbers are integers of both signs and of all sizes.
func numbers() []int {
	return []int{0, 1, -1, 2, -2, 3, 7, -7, 10, 1 << 32, -1 << 32, api.MaxInt - 1, api.MaxInt, api.MinInt, api.MinInt + 1}
}

func anyOf[E any](r *rand.Rand, l ...E) E { return l[r.Intn(len(l))] }

// anyName is a name from few, so that names are often found, or there twice.
func anyName(r *rand.Rand) string { return anyOf(r, "a", "b", "c", "x1", "_", "In") }

// anyTree is a right tree of at most so many nodes within each other.
func anyTree(r *rand.Rand, deep int) api.Expr {
	if deep == 1 || r.Intn(6) == 0 {
		switch r.Intn(3) {
		case 0:
			return integer(anyOf(r, 0, 0, 1, 2, 7, api.MaxInt))
		case 1:
			return in(anyName(r))
		}
		return variable(anyName(r))
	}
	if r.Intn(4) == 0 {
		return one(anyOf(r, api.OpNeg, api.OpNot), anyTree(r, deep-1))
	}
	return both(api.OpAdd+r.Intn(13), anyTree(r, deep-1), anyTree(r, deep-1))
}

// anyNode is a tree of any nodes at all: kinds, operators, numbers of operands and fields as they come, the likely ones more often.
func anyNode(r *rand.Rand, deep int) api.Expr {
	x := api.Expr{Kind: r.Intn(7), Num: anyOf(r, numbers()...), Name: anyOf(r, "a", "b", "", "in"), Op: r.Intn(18) - 1, At: r.Intn(9) - 2}
	many := map[int]int{api.ExprOne: 1, api.ExprBoth: 2}[x.Kind]
	if r.Intn(12) == 0 {
		many = r.Intn(4)
	}
	if deep == 1 {
		x.Kind, many = anyOf(r, api.ExprInt, api.ExprVar, api.ExprIn), 0
	}
	for range many {
		x.Subs = append(x.Subs, anyNode(r, deep-1))
	}
	return x
}

// anyEnv is an environment with names there twice and lists of different lengths.
func anyEnv(r *rand.Rand) api.Env {
	var e api.Env
	for range r.Intn(7) {
		e.Names = append(e.Names, anyName(r))
	}
	for range r.Intn(9) {
		e.Nums = append(e.Nums, anyOf(r, numbers()...))
	}
	for range r.Intn(5) {
		e.Active = append(e.Active, anyName(r))
	}
	return e
}

// fullEnv is an environment in which each name of anyName has a number.
func fullEnv(r *rand.Rand) api.Env {
	e := api.Env{Names: []string{"a", "b", "c", "x1", "_", "In"}}
	for range e.Names {
		e.Nums = append(e.Nums, anyOf(r, numbers()...))
	}
	for range r.Intn(5) {
		e.Active = append(e.Active, anyName(r))
	}
	return e
}

// shown is what a message shows of a tree or of an environment.
func shown(x any) string {
	s := fmt.Sprintf("%+v", x)
	return s[:min(len(s), 400)]
}

// read is the tree of a text without an error.
func read(t *testing.T, s string) api.Expr {
	t.Helper()
	x, f := expr.Read(s)
	if f != (api.Fault{}) {
		t.Fatalf("Read(%q): %v", s, f)
	}
	return x
}

// check holds Eval to a value or an error, and True to the same.
func check(t *testing.T, x api.Expr, e api.Env, n int, code api.Errno) {
	t.Helper()
	if got, gotCode := eval.Eval(x, e); got != n || gotCode != code {
		t.Errorf("Eval of %s in %s: %d, %d; want %d, %d", shown(x), shown(e), got, gotCode, n, code)
	}
	if is, isCode := eval.True(x, e); is != (n != 0) || isCode != code {
		t.Errorf("True of %s in %s: %v, %d; want %v, %d", shown(x), shown(e), is, isCode, n != 0, code)
	}
}

func checkNames(t *testing.T, x api.Expr, variables, states []string) {
	t.Helper()
	if v, s := eval.Names(x); !slices.Equal(v, variables) || !slices.Equal(s, states) {
		t.Errorf("Names of %s: %q, %q; want %q, %q", shown(x), v, s, variables, states)
	}
}
