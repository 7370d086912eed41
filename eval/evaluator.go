package eval

import (
	"slices"

	"pavane/api"
	"pavane/calc"
)

// evaluator evaluates expressions in the environment that it embeds.
type evaluator struct {
	api.Env
}

func (e *evaluator) value(x api.Expr) (int, api.Errno) {
	switch many := len(x.Subs); {
	case x.Kind == api.ExprInt && many == 0:
		return x.Num, api.OK
	case x.Kind == api.ExprVar && many == 0:
		return e.variable(x.Name)
	case x.Kind == api.ExprIn && many == 0:
		return e.in(x.Name), api.OK
	case x.Kind == api.ExprOne && many == 1:
		return e.one(x)
	case x.Kind == api.ExprBoth && many == 2:
		return e.both(x)
	}
	return 0, api.ErrTree
}

// variable is the number of the first variable that has the name; the others of that name are out of reach.
func (e *evaluator) variable(name string) (int, api.Errno) {
	at := slices.Index(e.Names, name)
	if at < 0 || at >= len(e.Nums) {
		return 0, api.ErrName
	}
	return e.Nums[at], api.OK
}

func (e *evaluator) in(state string) int {
	if slices.Contains(e.Active, state) {
		return 1
	}
	return 0
}

func (e *evaluator) one(x api.Expr) (int, api.Errno) {
	a, code := e.value(x.Subs[0])
	if code != api.OK {
		return 0, code
	}
	return calc.One(x.Op, a)
}

// both leaves the second operand alone where the first one decides, so that a guard can keep errors away.
func (e *evaluator) both(x api.Expr) (int, api.Errno) {
	a, code := e.value(x.Subs[0])
	switch {
	case code != api.OK:
		return 0, code
	case x.Op == api.OpAnd && a == 0:
		return 0, api.OK
	case x.Op == api.OpOr && a != 0:
		return 1, api.OK
	}
	b, code := e.value(x.Subs[1])
	if code != api.OK {
		return 0, code
	}
	return calc.Do(x.Op, a, b)
}
