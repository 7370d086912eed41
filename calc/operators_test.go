package calc_test

import (
	"math"
	"math/big"
	"math/rand"
	"testing"

	"pavane/api"
	"pavane/calc"
)

// The tests reckon with mathematical integers of any size, and wrap what comes out: the reference below shares nothing with the package.

// wrapped is the integer of 64 bits that differs from n by a multiple of 2^64.
func wrapped(n *big.Int) int {
	whole := new(big.Int).Lsh(big.NewInt(1), 64)
	rest := new(big.Int).Mod(n, whole)
	if rest.Cmp(big.NewInt(math.MaxInt64)) > 0 {
		rest.Sub(rest, whole)
	}
	return int(rest.Int64())
}

// quotient is a / b rounded toward zero: the quotient of the magnitudes, with a sign.
func quotient(a, b *big.Int) *big.Int {
	q := new(big.Int).Div(new(big.Int).Abs(a), new(big.Int).Abs(b))
	if a.Sign()*b.Sign() < 0 {
		q.Neg(q)
	}
	return q
}

func number(holds bool) int {
	if holds {
		return 1
	}
	return 0
}

// reference is what P3.1 tells of each binary operator.
func reference(op, left, right int) (int, api.Errno) {
	a, b := big.NewInt(int64(left)), big.NewInt(int64(right))
	if (op == api.OpDiv || op == api.OpMod) && right == 0 {
		return 0, api.ErrDiv
	}
	switch op {
	case api.OpAdd:
		return wrapped(a.Add(a, b)), api.OK
	case api.OpSub:
		return wrapped(a.Sub(a, b)), api.OK
	case api.OpMul:
		return wrapped(a.Mul(a, b)), api.OK
	case api.OpDiv:
		return wrapped(quotient(a, b)), api.OK
	case api.OpMod:
		return wrapped(new(big.Int).Sub(a, new(big.Int).Mul(b, quotient(a, b)))), api.OK
	case api.OpLt:
		return number(a.Cmp(b) == -1), api.OK
	case api.OpLe:
		return number(a.Cmp(b) != 1), api.OK
	case api.OpGt:
		return number(a.Cmp(b) == 1), api.OK
	case api.OpGe:
		return number(a.Cmp(b) != -1), api.OK
	case api.OpEq:
		return number(a.Cmp(b) == 0), api.OK
	case api.OpNe:
		return number(a.Cmp(b) != 0), api.OK
	case api.OpAnd:
		return number(a.Sign()*b.Sign() != 0), api.OK
	case api.OpOr:
		return number(a.Sign() != 0 || b.Sign() != 0), api.OK
	}
	return 0, api.ErrOp
}

func checkDo(t *testing.T, op, a, b, n int, code api.Errno) {
	t.Helper()
	if got, gotCode := calc.Do(op, a, b); got != n || gotCode != code {
		t.Errorf("Do(%d, %d, %d): %d, %d; want %d, %d", op, a, b, got, gotCode, n, code)
	}
}

func checkOne(t *testing.T, op, a, n int, code api.Errno) {
	t.Helper()
	if got, gotCode := calc.One(op, a); got != n || gotCode != code {
		t.Errorf("One(%d, %d): %d, %d; want %d, %d", op, a, got, gotCode, n, code)
	}
}

// edges are integers at which something may go wrong: small ones, the ends, powers of two and their neighbours.
func edges() []int {
	l := []int{0, 3, -3, 5, -5, 7, -7, 10, -10, 100, -100, 3037000499, 3037000500, -3037000500}
	for _, shift := range []int{0, 1, 7, 31, 32, 62, 63} {
		for near := -2; near <= 2; near++ {
			l = append(l, 1<<shift+near, -(1<<shift)+near)
		}
	}
	return l
}

// anyInt is an integer of any size.
func anyInt(r *rand.Rand) int {
	return int(r.Uint64()) >> r.Intn(64)
}

// noOperators are numbers that stand for no operator at all.
var noOperators = []int{0, -1, -2, -15, 16, 17, 100, 1 << 31, 1 << 32, 1<<32 + 1, 1<<32 + 4, -1 << 32, api.MinInt, api.MinInt + 1, api.MaxInt}

// P3.1: the document's examples.
func TestDoExamples(t *testing.T) {
	checkDo(t, api.OpAdd, api.MaxInt, 1, api.MinInt, api.OK)
	checkDo(t, api.OpMul, api.MinInt, -1, api.MinInt, api.OK)
	checkDo(t, api.OpDiv, api.MinInt, -1, api.MinInt, api.OK)
	checkDo(t, api.OpDiv, -7, 2, -3, api.OK)
	checkDo(t, api.OpMod, -7, 2, -1, api.OK)
	checkDo(t, api.OpMod, api.MinInt, -1, 0, api.OK)
	checkDo(t, api.OpMod, 1, 0, 0, api.ErrDiv)
	checkDo(t, api.OpNeg, 1, 1, 0, api.ErrOp)
}

// P3.1: each operator with small numbers of both signs, written out.
func TestDoSmall(t *testing.T) {
	for _, c := range []struct{ op, a, b, n int }{
		{api.OpAdd, 2, 3, 5}, {api.OpAdd, -2, -3, -5}, {api.OpAdd, 2, -3, -1},
		{api.OpSub, 2, 3, -1}, {api.OpSub, 3, 2, 1}, {api.OpSub, -3, -2, -1},
		{api.OpMul, 4, 3, 12}, {api.OpMul, -4, 3, -12}, {api.OpMul, -4, -3, 12}, {api.OpMul, 4, 0, 0},
		{api.OpDiv, 7, 2, 3}, {api.OpDiv, 7, -2, -3}, {api.OpDiv, -7, -2, 3}, {api.OpDiv, 1, 2, 0}, {api.OpDiv, -1, 2, 0}, {api.OpDiv, 0, 5, 0},
		{api.OpMod, 7, 2, 1}, {api.OpMod, 7, -2, 1}, {api.OpMod, -7, -2, -1}, {api.OpMod, 6, 3, 0}, {api.OpMod, -6, 3, 0}, {api.OpMod, 2, 5, 2}, {api.OpMod, -2, 5, -2},
		{api.OpLt, 1, 2, 1}, {api.OpLt, 2, 2, 0}, {api.OpLt, 3, 2, 0}, {api.OpLt, -1, 1, 1},
		{api.OpLe, 1, 2, 1}, {api.OpLe, 2, 2, 1}, {api.OpLe, 3, 2, 0},
		{api.OpGt, 1, 2, 0}, {api.OpGt, 2, 2, 0}, {api.OpGt, 3, 2, 1}, {api.OpGt, 1, -1, 1},
		{api.OpGe, 1, 2, 0}, {api.OpGe, 2, 2, 1}, {api.OpGe, 3, 2, 1},
		{api.OpEq, 1, 2, 0}, {api.OpEq, 2, 2, 1}, {api.OpEq, 2, -2, 0},
		{api.OpNe, 1, 2, 1}, {api.OpNe, 2, 2, 0}, {api.OpNe, 2, -2, 1},
		{api.OpAnd, 0, 0, 0}, {api.OpAnd, 5, 0, 0}, {api.OpAnd, 0, -5, 0}, {api.OpAnd, 5, -3, 1}, {api.OpAnd, 1, 2, 1},
		{api.OpOr, 0, 0, 0}, {api.OpOr, 5, 0, 1}, {api.OpOr, 0, -5, 1}, {api.OpOr, 5, -3, 1}, {api.OpOr, 5, -5, 1},
	} {
		checkDo(t, c.op, c.a, c.b, c.n, api.OK)
	}
}

// P3.1: what goes beyond the ends wraps around, and comparing does not.
func TestDoEnds(t *testing.T) {
	for _, c := range []struct{ op, a, b, n int }{
		{api.OpAdd, api.MinInt, -1, api.MaxInt}, {api.OpAdd, api.MinInt, api.MinInt, 0}, {api.OpAdd, api.MaxInt, api.MaxInt, -2},
		{api.OpSub, api.MinInt, 1, api.MaxInt}, {api.OpSub, 0, api.MinInt, api.MinInt}, {api.OpSub, api.MaxInt, api.MinInt, -1},
		{api.OpMul, api.MaxInt, api.MaxInt, 1}, {api.OpMul, api.MinInt, 2, 0}, {api.OpMul, 1 << 32, 1 << 32, 0}, {api.OpMul, api.MinInt, 3, api.MinInt}, {api.OpMul, -1, api.MinInt, api.MinInt},
		{api.OpDiv, api.MinInt, 1, api.MinInt}, {api.OpDiv, api.MinInt, api.MinInt, 1}, {api.OpDiv, api.MaxInt, -1, -api.MaxInt}, {api.OpDiv, api.MaxInt, api.MinInt, 0}, {api.OpDiv, api.MinInt, api.MaxInt, -1},
		{api.OpMod, api.MinInt, 1, 0}, {api.OpMod, api.MinInt, api.MaxInt, -1}, {api.OpMod, api.MaxInt, api.MinInt, api.MaxInt}, {api.OpMod, api.MinInt, 10, -8},
		{api.OpLt, api.MinInt, api.MaxInt, 1}, {api.OpGt, api.MaxInt, api.MinInt, 1}, {api.OpLe, api.MaxInt, api.MinInt, 0}, {api.OpGe, api.MinInt, api.MaxInt, 0},
		{api.OpLt, api.MinInt, 1, 1}, {api.OpGt, api.MinInt, 1, 0}, {api.OpEq, api.MinInt, api.MaxInt, 0}, {api.OpNe, api.MinInt, api.MinInt, 0},
		{api.OpAnd, api.MinInt, api.MinInt, 1}, {api.OpOr, api.MinInt, api.MinInt, 1}, {api.OpAnd, 1 << 32, 1 << 63 >> 1, 1},
	} {
		checkDo(t, c.op, c.a, c.b, c.n, api.OK)
	}
}

// P3.1: each operator, and each number that is none, with all edges against each other.
func TestDoAgainstReference(t *testing.T) {
	ops := append([]int{api.OpNeg, api.OpNot}, noOperators...)
	for op := api.OpAdd; op <= api.OpOr; op++ {
		ops = append(ops, op)
	}
	for _, op := range ops {
		for _, a := range edges() {
			for _, b := range edges() {
				n, code := reference(op, a, b)
				checkDo(t, op, a, b, n, code)
			}
		}
	}
}

// P3.1: each operator with numbers of all sizes.
func TestDoAnyNumbers(t *testing.T) {
	r := rand.New(rand.NewSource(3))
	for range 5000 {
		a, b := anyInt(r), anyInt(r)
		for op := 0; op <= api.OpNot+1; op++ {
			n, code := reference(op, a, b)
			checkDo(t, op, a, b, n, code)
			n, code = reference(op, a, a)
			checkDo(t, op, a, a, n, code)
		}
	}
}

// P3.1: nothing may be divided by 0, not even 0; other operators take a 0, and what is no operator is ErrOp beside one too.
func TestDoWithZero(t *testing.T) {
	for _, a := range edges() {
		checkDo(t, api.OpDiv, a, 0, 0, api.ErrDiv)
		checkDo(t, api.OpMod, a, 0, 0, api.ErrDiv)
		checkDo(t, api.OpMul, a, 0, 0, api.OK)
		checkDo(t, api.OpAdd, a, 0, a, api.OK)
		checkDo(t, api.OpSub, a, 0, a, api.OK)
		checkDo(t, api.OpNot, a, 0, 0, api.ErrOp)
	}
}

// P3.2: the document's examples.
func TestOneExamples(t *testing.T) {
	checkOne(t, api.OpNeg, api.MinInt, api.MinInt, api.OK)
	checkOne(t, api.OpNot, 5, 0, api.OK)
}

// P3.2: both operators, with small numbers and at the ends.
func TestOne(t *testing.T) {
	for _, c := range []struct{ a, neg, not int }{
		{0, 0, 1}, {1, -1, 0}, {-1, 1, 0}, {2, -2, 0}, {-7, 7, 0}, {1 << 32, -1 << 32, 0},
		{api.MaxInt, -api.MaxInt, 0}, {-api.MaxInt, api.MaxInt, 0}, {api.MinInt, api.MinInt, 0},
	} {
		checkOne(t, api.OpNeg, c.a, c.neg, api.OK)
		checkOne(t, api.OpNot, c.a, c.not, api.OK)
	}
	for _, a := range edges() {
		checkOne(t, api.OpNeg, a, wrapped(new(big.Int).Neg(big.NewInt(int64(a)))), api.OK)
		checkOne(t, api.OpNot, a, number(a == 0), api.OK)
	}
}

// P3.2: the binary operators and what is no operator.
func TestOneNoOperator(t *testing.T) {
	for op := api.OpAdd; op <= api.OpOr; op++ {
		for _, a := range edges() {
			checkOne(t, op, a, 0, api.ErrOp)
		}
	}
	for _, op := range noOperators {
		for _, a := range edges() {
			checkOne(t, op, a, 0, api.ErrOp)
		}
	}
}
