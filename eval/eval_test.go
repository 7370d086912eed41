package eval_test

import (
	"maps"
	"math/rand"
	"slices"
	"testing"

	"pavane/api"
	"pavane/calc"
	"pavane/eval"
)

// P6.1: the document's examples.
func TestEvalExamples(t *testing.T) {
	e := document()
	check(t, read(t, "x / y"), e, 0, api.ErrDiv)
	check(t, read(t, "y && x / y"), e, 0, api.OK)
	check(t, read(t, "x || x / y"), e, 1, api.OK)
	check(t, read(t, "in(s1) + in(s2)"), e, 1, api.OK)
	check(t, read(t, "-x % 4"), e, -3, api.OK)
	check(t, read(t, "z"), e, 0, api.ErrName)
}

// P6.1: whole expressions, with values worked out by hand.
func TestEvalTexts(t *testing.T) {
	e := document()
	for s, n := range map[string]int{
		"x": 7, "y": 0, "5": 5, "9223372036854775807 + 1": api.MinInt, "-9223372036854775807 - 2": api.MaxInt,
		"x - 1 - 2": 4, "x - (1 - 2)": 8, "x * x + x": 56, "x * (x + x)": 98, "-x / 2": -3, "x / -2 * 2 + x % -2": -5,
		"x > 3 && in(s1)": 1, "x > 3 && in(s2)": 0, "x < 3 || in(s1)": 1, "x < 3 || in(s2)": 0, "!in(s2)": 1, "!x": 0, "!y": 1, "!!x": 1, "--x": 7, "!-x": 0, "-!y": -1,
		"x && 5": 1, "y || 5": 1, "y || y": 0, "x && y": 0, "x == 7": 1, "x != 7": 0, "x >= 7": 1, "x <= 6": 0, "1 < 2 < 2": 1, "3 > 2 > 1": 0, "in(x)": 0, "in(s1) == 1 && in(s2) == 0": 1,
	} {
		check(t, read(t, s), e, n, api.OK)
	}
}

// P6.1: the value of an integer is its Num, whatever the other fields are.
func TestEvalInt(t *testing.T) {
	for _, n := range numbers() {
		for _, e := range []api.Env{{}, document()} {
			check(t, integer(n), e, n, api.OK)
			check(t, api.Expr{Kind: api.ExprInt, Num: n, Name: "x", Op: api.OpNeg, At: -4, Subs: []api.Expr{}}, e, n, api.OK)
		}
	}
}

// P6.1: the value of a variable is that of the first one with its name.
func TestEvalVar(t *testing.T) {
	e := api.Env{Names: []string{"a", "b", "a", "in", "", "1a", "\xff", "A"}, Nums: []int{1, -2, 3, 4, 5, 6, 7, 8, 9}, Active: []string{"c"}}
	for name, n := range map[string]int{"a": 1, "b": -2, "in": 4, "": 5, "1a": 6, "\xff": 7, "A": 8} {
		check(t, variable(name), e, n, api.OK)
		check(t, api.Expr{Kind: api.ExprVar, Name: name, Num: 70, Op: api.OpNot, At: 9}, e, n, api.OK)
	}
	for _, name := range []string{"c", "B", "aa", "a ", " a", "\xfe", "\ufffd", "\x00"} {
		check(t, variable(name), e, 0, api.ErrName)
	}
	for _, n := range numbers() {
		check(t, variable("v"), api.Env{Names: []string{"u", "v"}, Nums: []int{5, n}}, n, api.OK)
	}
}

// P6.1: a name without a number is ErrName, also if it is there again where there is one.
func TestEvalVarWithoutNumber(t *testing.T) {
	names := []string{"a", "b", "c", "b"}
	for many := range 6 {
		e := api.Env{Names: names, Nums: []int{10, 11, 12, 13, 14}[:many:many]}
		for i, name := range names[:3] {
			if i < many {
				check(t, variable(name), e, 10+i, api.OK)
			} else {
				check(t, variable(name), e, 0, api.ErrName)
			}
		}
	}
	roomy := make([]int, 1, 8)
	check(t, variable("b"), api.Env{Names: names, Nums: roomy}, 0, api.ErrName)
	check(t, variable(""), api.Env{}, 0, api.ErrName)
	check(t, variable(""), api.Env{Nums: []int{1}}, 0, api.ErrName)
	check(t, variable("a"), api.Env{Active: []string{"a"}, Nums: []int{1}}, 0, api.ErrName)
}

// P6.1: the value of in is 1 for the names that are active, and 0 for others; it is never an error.
func TestEvalIn(t *testing.T) {
	e := api.Env{Names: []string{"v"}, Nums: []int{5}, Active: []string{"s", "t", "s", "", "in", "\xff"}}
	for _, name := range []string{"s", "t", "", "in", "\xff"} {
		check(t, in(name), e, 1, api.OK)
		check(t, api.Expr{Kind: api.ExprIn, Name: name, Num: 70, Op: api.OpNot, At: 9}, e, 1, api.OK)
	}
	for _, name := range []string{"v", "S", "ss", " s", "\ufffd", "\x00"} {
		check(t, in(name), e, 0, api.OK)
	}
	for _, name := range []string{"", "s"} {
		check(t, in(name), api.Env{}, 0, api.OK)
		check(t, in(name), api.Env{Names: []string{name}, Nums: []int{1}}, 0, api.OK)
	}
}

// P6.1: an operator of one operand is that of calc, whatever number stands for it.
func TestEvalOne(t *testing.T) {
	for _, op := range append(numbers(), 4, 5, 6, 8, 9, 11, 12, 13, 14, 15, 16, 17) {
		for _, a := range numbers() {
			n, code := calc.One(op, a)
			e := api.Env{Names: []string{"a"}, Nums: []int{a}}
			check(t, one(op, integer(a)), e, n, code)
			check(t, one(op, variable("a")), e, n, code)
			check(t, api.Expr{Kind: api.ExprOne, Op: op, Num: 3, Name: "a", At: 4, Subs: []api.Expr{integer(a)}}, e, n, code)
		}
		for code, x := range failing() {
			check(t, one(op, x), document(), 0, code)
		}
	}
}

// P6.1: an operator of two operands is that of calc, whatever number stands for it.
func TestEvalBoth(t *testing.T) {
	for _, op := range append(numbers(), 4, 5, 6, 8, 9, 11, 12, 13, 14, 15, 16, 17) {
		for _, a := range numbers() {
			for _, b := range numbers() {
				n, code := calc.Do(op, a, b)
				e := api.Env{Names: []string{"a", "b"}, Nums: []int{a, b}}
				check(t, both(op, integer(a), integer(b)), e, n, code)
				check(t, api.Expr{Kind: api.ExprBoth, Op: op, Num: 3, Name: "a", At: 4, Subs: []api.Expr{variable("a"), variable("b")}}, e, n, code)
			}
		}
	}
}

// P6.1: the error of the first operand comes ahead of that of the second, and both ahead of the operator's.
func TestEvalOrderOfErrors(t *testing.T) {
	for op := -1; op < 18; op++ {
		for first, x := range failing() {
			for _, y := range failing() {
				check(t, both(op, x, y), document(), 0, first)
			}
			for _, a := range numbers() {
				check(t, both(op, x, integer(a)), document(), 0, first)
				if decides := op == api.OpAnd && a == 0 || op == api.OpOr && a != 0; !decides {
					check(t, both(op, integer(a), x), document(), 0, first)
				}
			}
		}
	}
	for _, op := range []int{api.OpDiv, api.OpMod} {
		check(t, both(op, variable("nobody"), integer(0)), document(), 0, api.ErrName)
		check(t, both(op, integer(0), integer(0)), document(), 0, api.ErrDiv)
	}
}

// P6.1: where the first operand decides, the second one is not evaluated, whatever it is.
func TestEvalSecondOperandAlone(t *testing.T) {
	for code, y := range failing() {
		for _, a := range numbers() {
			if a == 0 {
				check(t, both(api.OpAnd, integer(a), y), document(), 0, api.OK)
				check(t, both(api.OpOr, integer(a), y), document(), 0, code)
			} else {
				check(t, both(api.OpAnd, integer(a), y), document(), 0, code)
				check(t, both(api.OpOr, integer(a), y), document(), 1, api.OK)
			}
		}
		inner := both(api.OpOr, in("s1"), y)
		check(t, both(api.OpAnd, inner, both(api.OpAnd, in("s2"), y)), document(), 0, api.OK)
		check(t, both(api.OpAdd, inner, inner), document(), 2, api.OK)
		check(t, both(api.OpAnd, inner, y), document(), 0, code)
	}
}

// P6.1: the values of && and || are 1 and 0, whatever their operands are.
func TestEvalTruth(t *testing.T) {
	for _, a := range numbers() {
		for _, b := range numbers() {
			and, or := 0, 0
			if a != 0 && b != 0 {
				and = 1
			}
			if a != 0 || b != 0 {
				or = 1
			}
			check(t, both(api.OpAnd, integer(a), integer(b)), api.Env{}, and, api.OK)
			check(t, both(api.OpOr, integer(a), integer(b)), api.Env{}, or, api.OK)
		}
	}
}

// P6.1: a wrong number of operands is ErrTree, ahead of any error of the node or of its operands.
func TestEvalWrongOperands(t *testing.T) {
	e := document()
	for kind, right := range map[int]int{api.ExprInt: 0, api.ExprVar: 0, api.ExprIn: 0, api.ExprOne: 1, api.ExprBoth: 2} {
		for many := range 5 {
			if many == right {
				continue
			}
			for op := range 17 {
				for _, sub := range append(slices.Collect(maps.Values(failing())), integer(0), integer(1), in("s1")) {
					x := api.Expr{Kind: kind, Op: op, Num: 1, Name: "x", Subs: slices.Repeat([]api.Expr{sub}, many)}
					check(t, x, e, 0, api.ErrTree)
					x.Name = "nobody"
					check(t, x, e, 0, api.ErrTree)
				}
			}
		}
		check(t, api.Expr{Kind: kind, Op: api.OpNot, Subs: make([]api.Expr, 1<<20)}, e, 0, api.ErrTree)
	}
}

// P6.1: any other kind is ErrTree, whatever is in it.
func TestEvalWrongKinds(t *testing.T) {
	for _, kind := range []int{0, -1, -5, 6, 7, 99, 1<<32 + 1, 1 << 32, api.MaxInt, api.MinInt, api.MinInt + 1} {
		for many := range 4 {
			for op := range 17 {
				x := api.Expr{Kind: kind, Op: op, Num: 1, Name: "x", Subs: slices.Repeat([]api.Expr{integer(1)}, many)}
				check(t, x, document(), 0, api.ErrTree)
				check(t, one(api.OpNot, x), document(), 0, api.ErrTree)
			}
		}
	}
}

// P6.1: True tells whether the value is not 0, of numbers of all sizes.
func TestTrue(t *testing.T) {
	for _, n := range append(numbers(), 1<<8, 1<<16, 1<<31, 1<<62) {
		is, code := eval.True(integer(n), api.Env{})
		if is != (n != 0) || code != api.OK {
			t.Errorf("True of %d: %v, %d", n, is, code)
		}
	}
	for want, x := range failing() {
		if is, code := eval.True(x, document()); is || code != want {
			t.Errorf("True of %s: %v, %d; want false, %d", shown(x), is, code, want)
		}
	}
}

// P6.1: random right trees, and trees of any nodes at all, in random environments.
func TestEvalAgainstReference(t *testing.T) {
	r := rand.New(rand.NewSource(1))
	seen := map[api.Errno]int{}
	for range 20000 {
		x := anyTree(r, 1+r.Intn(7))
		if r.Intn(2) == 0 {
			x = anyNode(r, 1+r.Intn(6))
		}
		for range 3 {
			e := anyEnv(r)
			n, code := reference(x, e)
			check(t, x, e, n, code)
			seen[code]++
		}
		if t.Failed() {
			return
		}
	}
	for _, code := range []api.Errno{api.OK, api.ErrDiv, api.ErrOp, api.ErrTree, api.ErrName} {
		if seen[code] < 100 {
			t.Errorf("only %d inputs come to %d", seen[code], code)
		}
	}
}

// P6.1, W1: as many nodes within each other as the document's bound allows, on the left, on the right and below signs.
func TestEvalDeep(t *testing.T) {
	const deep = 1<<16 - 1
	e := document()
	left, right, signs, decided := integer(0), integer(0), integer(5), in("s1")
	for range deep {
		left, right = both(api.OpAdd, left, integer(1)), both(api.OpSub, integer(1), right)
		signs, decided = one(api.OpNeg, signs), both(api.OpOr, decided, api.Expr{})
	}
	check(t, left, e, deep, api.OK)
	check(t, right, e, 1, api.OK)
	check(t, signs, e, -5, api.OK)
	check(t, decided, e, 1, api.OK)
	check(t, both(api.OpDiv, left, variable("y")), e, 0, api.ErrDiv)
}

// P6.1: an environment of many names, a third of them there twice.
func TestEvalManyNames(t *testing.T) {
	var e api.Env
	for i := range 3000 {
		e.Names = append(e.Names, "v"+calc.Text(i%2000))
		e.Nums = append(e.Nums, i)
		e.Active = append(e.Active, "s"+calc.Text(i))
	}
	for i := range 2000 {
		check(t, variable("v"+calc.Text(i)), e, i, api.OK)
		check(t, in("s"+calc.Text(i+1000)), e, 1, api.OK)
		check(t, in("s"+calc.Text(i+3000)), e, 0, api.OK)
	}
	check(t, variable("v2000"), e, 0, api.ErrName)
}
