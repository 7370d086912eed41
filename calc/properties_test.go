package calc_test

import (
	"math/big"
	"math/rand"
	"testing"

	"pavane/api"
	"pavane/calc"
)

// do is an operation that may not fail.
func do(t *testing.T, op, a, b int) int {
	t.Helper()
	n, code := calc.Do(op, a, b)
	if code != api.OK {
		t.Fatalf("Do(%d, %d, %d) fails: %d", op, a, b, code)
	}
	return n
}

// triples hands out three numbers, many times: edges, and numbers of all sizes.
func triples(each func(a, b, c int)) {
	r := rand.New(rand.NewSource(5))
	l := edges()
	for range 20000 {
		each(l[r.Intn(len(l))], l[r.Intn(len(l))], l[r.Intn(len(l))])
		each(anyInt(r), anyInt(r), anyInt(r))
	}
}

// P3.4: addition and multiplication are commutative and associative, and multiplication distributes over addition.
func TestRing(t *testing.T) {
	triples(func(a, b, c int) {
		for _, op := range []int{api.OpAdd, api.OpMul} {
			if do(t, op, a, b) != do(t, op, b, a) {
				t.Fatalf("operator %d is not commutative: %d, %d", op, a, b)
			}
			if do(t, op, do(t, op, a, b), c) != do(t, op, a, do(t, op, b, c)) {
				t.Fatalf("operator %d is not associative: %d, %d, %d", op, a, b, c)
			}
		}
		whole := do(t, api.OpMul, a, do(t, api.OpAdd, b, c))
		parts := do(t, api.OpAdd, do(t, api.OpMul, a, b), do(t, api.OpMul, a, c))
		if whole != parts {
			t.Fatalf("multiplication does not distribute: %d, %d, %d", a, b, c)
		}
	})
}

// P3.4: quotient and rest make up the number again, and the rest is smaller than what was divided by.
func TestQuotientAndRest(t *testing.T) {
	triples(func(a, b, _ int) {
		if b == 0 {
			return
		}
		q, rest := do(t, api.OpDiv, a, b), do(t, api.OpMod, a, b)
		if do(t, api.OpAdd, do(t, api.OpMul, b, q), rest) != a {
			t.Fatalf("%d by %d: quotient %d, rest %d", a, b, q, rest)
		}
		if big.NewInt(int64(rest)).CmpAbs(big.NewInt(int64(b))) >= 0 {
			t.Fatalf("%d by %d: the rest %d is not smaller", a, b, rest)
		}
		if rest < 0 && a >= 0 || rest > 0 && a <= 0 {
			t.Fatalf("%d by %d: the rest %d has another sign", a, b, rest)
		}
	})
}

// P3.5: exactly one of less, equal and greater is 1; the others are 0, and each has its negation.
func TestTrichotomy(t *testing.T) {
	triples(func(a, b, _ int) {
		less, same, more := do(t, api.OpLt, a, b), do(t, api.OpEq, a, b), do(t, api.OpGt, a, b)
		if less|same|more != 1 || less+same+more != 1 {
			t.Fatalf("%d and %d: %d, %d, %d", a, b, less, same, more)
		}
		if do(t, api.OpGe, a, b) != 1-less || do(t, api.OpNe, a, b) != 1-same || do(t, api.OpLe, a, b) != 1-more {
			t.Fatalf("%d and %d: a negation is not the other", a, b)
		}
		if do(t, api.OpEq, a, a) != 1 || do(t, api.OpLt, b, a) != more {
			t.Fatalf("%d and %d: turned round, it is another answer", a, b)
		}
	})
}

// P3.5: Parse inverts Text for integers that are not negative; a sign is no digit.
func TestParseInvertsText(t *testing.T) {
	r := rand.New(rand.NewSource(6))
	l := edges()
	for range 5000 {
		l = append(l, anyInt(r))
	}
	for _, n := range l {
		s := calc.Text(n)
		if n < 0 {
			checkParse(t, s, 0, 0, api.ErrForm)
			continue
		}
		checkParse(t, s, n, len(s), api.OK)
		checkParse(t, s+"!", n, len(s), api.OK)
	}
}
