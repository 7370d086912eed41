package eval_test

import (
	"math/rand"
	"slices"
	"testing"

	"pavane/api"
	"pavane/eval"
	"pavane/expr"
)

// onlyNamed is an environment with the same values of some names, and everything else in another way: other names, other numbers, another order.
func onlyNamed(r *rand.Rand, e api.Env, variables, states []string) api.Env {
	var other api.Env
	for _, i := range r.Perm(len(e.Names)) {
		if first := slices.Index(e.Names, e.Names[i]); slices.Contains(variables, e.Names[i]) && first < len(e.Nums) {
			other.Names, other.Nums = append(other.Names, e.Names[i]), append(other.Nums, e.Nums[first])
		}
		other.Names, other.Nums = append(other.Names, "other"+e.Names[i]), append(other.Nums, r.Int())
	}
	for range r.Intn(3) {
		other.Nums = append(other.Nums, r.Int())
	}
	for _, i := range r.Perm(len(e.Active)) {
		if slices.Contains(states, e.Active[i]) {
			other.Active = append(other.Active, e.Active[i], e.Active[i])
		}
		other.Active = append(other.Active, "other"+e.Active[i])
	}
	return other
}

// P6.4: the value depends on the values of its names only.
func TestValueOfNamesOnly(t *testing.T) {
	r := rand.New(rand.NewSource(3))
	for range 10000 {
		if t.Failed() {
			return
		}
		x, e := anyTree(r, 1+r.Intn(6)), anyEnv(r)
		variables, states := eval.Names(x)
		n, code := eval.Eval(x, e)
		for range 3 {
			check(t, x, onlyNamed(r, e, variables, states), n, code)
		}
	}
}

// P6.4: the offsets of a tree do not count.
func TestValueIsPlaceless(t *testing.T) {
	r := rand.New(rand.NewSource(4))
	for range 3000 {
		if t.Failed() {
			return
		}
		x, e := anyTree(r, 1+r.Intn(6)), anyEnv(r)
		n, code := eval.Eval(x, e)
		check(t, moved(r, x), e, n, code)
	}
}

// moved is a tree with any offsets, in memory of its own.
func moved(r *rand.Rand, x api.Expr) api.Expr {
	x.At, x.Subs = r.Int()-r.Int(), slices.Clone(x.Subs)
	for i := range x.Subs {
		x.Subs[i] = moved(r, x.Subs[i])
	}
	return x
}

// P6.4: the double negation is 1 exactly if the expression is not 0.
func TestDoubleNegation(t *testing.T) {
	r := rand.New(rand.NewSource(5))
	seen := map[int]int{}
	for range 10000 {
		if t.Failed() {
			return
		}
		x, e := anyTree(r, 1+r.Intn(5)), fullEnv(r)
		n, code := eval.Eval(x, e)
		want := 0
		if n != 0 {
			want = 1
		}
		check(t, one(api.OpNot, one(api.OpNot, x)), e, want, code)
		seen[want]++
	}
	if seen[0] < 100 || seen[1] < 100 {
		t.Errorf("of the values, 0 and others: %d, %d", seen[0], seen[1])
	}
}

// P6.4: De Morgan's laws, where nothing returns an error.
func TestDeMorgan(t *testing.T) {
	r := rand.New(rand.NewSource(6))
	for range 10000 {
		if t.Failed() {
			return
		}
		x, y, e := anyTree(r, 1+r.Intn(4)), anyTree(r, 1+r.Intn(4)), fullEnv(r)
		_, first := eval.Eval(x, e)
		_, second := eval.Eval(y, e)
		if first != api.OK || second != api.OK {
			continue
		}
		notX, notY := one(api.OpNot, x), one(api.OpNot, y)
		for op, dual := range map[int]int{api.OpAnd: api.OpOr, api.OpOr: api.OpAnd} {
			n, code := eval.Eval(one(api.OpNot, both(op, x, y)), e)
			check(t, both(dual, notX, notY), e, n, api.OK)
			if code != api.OK {
				t.Errorf("of operands without an error comes %d", code)
			}
		}
	}
}

// P6.5: an expression has the same value once it has been formatted and parsed.
func TestValueOfText(t *testing.T) {
	r := rand.New(rand.NewSource(7))
	for range 5000 {
		if t.Failed() {
			return
		}
		x := anyTree(r, 1+r.Intn(7))
		if !expr.Right(x) {
			t.Fatalf("%s is not right", shown(x))
		}
		y := read(t, expr.Text(x))
		for range 3 {
			e := anyEnv(r)
			n, code := eval.Eval(x, e)
			check(t, y, e, n, code)
		}
		variables, states := eval.Names(x)
		checkNames(t, y, variables, states)
	}
}

// W2: the same arguments have the same results, whatever was evaluated before.
func TestEvalAgain(t *testing.T) {
	r := rand.New(rand.NewSource(8))
	for range 1000 {
		if t.Failed() {
			return
		}
		x, e := anyNode(r, 5), anyEnv(r)
		n, code := eval.Eval(x, e)
		variables, states := eval.Names(x)
		eval.Eval(anyNode(r, 5), anyEnv(r))
		eval.Names(anyNode(r, 5))
		check(t, x, e, n, code)
		checkNames(t, x, variables, states)
	}
}
