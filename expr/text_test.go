package expr_test

import (
	"math/rand"
	"strings"
	"testing"

	"pavane/api"
	"pavane/expr"
)

func checkText(t *testing.T, x api.Expr, want string) {
	t.Helper()
	if got := expr.Text(x); !expr.Right(x) || got != want {
		t.Errorf("%s: %v, %d bytes %q; want %d bytes %q", shown(x), expr.Right(x), len(got), start(got), len(want), start(want))
	}
}

func checkWrong(t *testing.T, x api.Expr) {
	t.Helper()
	if got := expr.Text(x); expr.Right(x) || got != "" {
		t.Errorf("%s: %v, %d bytes %q; want it not right", shown(x), expr.Right(x), len(got), start(got))
	}
}

// P5.3: the document's examples, with no more parentheses than are needed.
func TestTextExamples(t *testing.T) {
	for s, want := range map[string]string{
		"a-b-1": "a - b - 1", "a-(b-1)": "a - (b - 1)", "-a*!b<=c==in(d)&&e||f": "-a * !b <= c == in(d) && e || f",
		"((a))": "a", "-(a+b)": "-(a + b)", "--a": "--a", "-(-a)": "--a", "!((in ( s )))": "!in(s)", "-(7)": "-7",
		"(a*b)+c": "a * b + c", "a*(b+c)": "a * (b + c)", "(a+b)*c": "(a + b) * c", "(a-b)-c": "a - b - c",
		"a<(b<c)": "a < (b < c)", "a==b!=c": "a == b != c", "a!=(b==c)": "a != (b == c)", "(a||b)&&c": "(a || b) && c", "a||(b&&c)": "a || b && c", "a||(b||c)": "a || (b || c)",
		"(-a)*b": "-a * b", "a-(-b)": "a - -b", "(!a)==(!b)": "!a == !b",
	} {
		checkText(t, read(t, s), want)
	}
}

// P5.3: each operand alone; offsets do not count.
func TestTextOfOperands(t *testing.T) {
	long := strings.Repeat("q", api.MaxName)
	for want, x := range map[string]api.Expr{"0": integer(0), "9223372036854775807": integer(api.MaxInt), "a": variable("a"), "_9": variable("_9"), long: variable(long), "in(a)": in("a"), "in(" + long + ")": in(long), "-5": one(api.OpNeg, integer(5)), "!a": one(api.OpNot, variable("a"))} {
		checkText(t, x, want)
		for _, at := range []int{-1, 7, api.MaxInt, api.MinInt} {
			checkText(t, placed(at, x), want)
			checkText(t, placed(at, both(placed(at, x), "+", x)), want+" + "+want)
		}
		x.Subs = append([]api.Expr{}, x.Subs...)
		checkText(t, x, want)
	}
}

// P5.3: each two operators within each other, on the left and on the right, and below a sign.
func TestTextOfOperatorPairs(t *testing.T) {
	a, b, c := variable("a"), variable("b"), variable("c")
	for s := range referenceOps {
		checkText(t, both(a, s, b), "a "+s+" b")
		checkText(t, one(api.OpNeg, both(a, s, b)), "-(a "+s+" b)")
		checkText(t, one(api.OpNot, both(a, s, b)), "!(a "+s+" b)")
		checkText(t, both(one(api.OpNeg, a), s, one(api.OpNot, b)), "-a "+s+" !b")
		checkText(t, one(api.OpNot, one(api.OpNeg, both(in("a"), s, b))), "!-(in(a) "+s+" b)")
		for u := range referenceOps {
			left, right := "a "+u+" b", "b "+u+" c"
			if lineOf(u) < lineOf(s) {
				left = "(" + left + ")"
			}
			if lineOf(u) <= lineOf(s) {
				right = "(" + right + ")"
			}
			checkText(t, both(both(a, u, b), s, c), left+" "+s+" c")
			checkText(t, both(a, s, both(b, u, c)), "a "+s+" "+right)
			checkText(t, both(both(a, u, b), s, both(b, u, c)), left+" "+s+" "+right)
		}
	}
}

// wrongNodes are nodes that Parse never returns, by kinds and fields.
func wrongNodes() []api.Expr {
	a := variable("a")
	l := []api.Expr{{}, {Name: "a"}, {Kind: -1}, {Kind: 6}, {Kind: 99, Name: "a"}, {Kind: 6, Op: api.OpAdd, Subs: []api.Expr{a, a}}}
	for _, x := range []api.Expr{integer(0), integer(3), a, in("s")} {
		for _, op := range []int{1, -1, api.OpNeg, 99} {
			y := x
			y.Op = op
			l = append(l, y)
		}
		y := x
		y.Subs = []api.Expr{a}
		l = append(l, y, api.Expr{Kind: x.Kind, Num: -1, Name: x.Name})
		y.Subs = []api.Expr{{}, {}}
		l = append(l, y)
	}
	l = append(l, integer(-1), integer(api.MinInt), api.Expr{Kind: api.ExprInt, Num: 2, Name: "a"}, api.Expr{Kind: api.ExprInt, Name: "in"})
	for _, kind := range []int{api.ExprVar, api.ExprIn} {
		l = append(l, api.Expr{Kind: kind, Name: "a", Num: 1}, api.Expr{Kind: kind, Name: "a", Num: -1})
		for _, s := range []string{"", "in", "state", "1", "1a", "a b", " a", "a ", "a-b", "in(a)", "é", "a\x00", "a//", strings.Repeat("q", api.MaxName+1), strings.Repeat("q", 1<<20)} {
			l = append(l, api.Expr{Kind: kind, Name: s})
		}
	}
	return append(l, wrongOperators()...)
}

func wrongOperators() []api.Expr {
	a := variable("a")
	var l []api.Expr
	for op := -2; op < 20; op++ {
		if op != api.OpNeg && op != api.OpNot {
			l = append(l, one(op, a))
		}
		if op < api.OpAdd || op > api.OpOr {
			l = append(l, api.Expr{Kind: api.ExprBoth, Op: op, Subs: []api.Expr{a, a}})
		}
	}
	for _, op := range []int{api.MinInt, 1 << 32, api.MaxInt} {
		l = append(l, one(op, a), api.Expr{Kind: api.ExprBoth, Op: op, Subs: []api.Expr{a, a}})
	}
	for n := range 5 {
		subs := []api.Expr{a, a, a, a, a}[:n]
		if n != 1 {
			l = append(l, api.Expr{Kind: api.ExprOne, Op: api.OpNeg, Subs: subs})
		}
		if n != 2 {
			l = append(l, api.Expr{Kind: api.ExprBoth, Op: api.OpAdd, Subs: subs})
		}
	}
	for _, x := range []api.Expr{one(api.OpNeg, a), one(api.OpNot, a), both(a, "+", a), both(a, "||", a)} {
		for _, n := range []int{1, -1, api.MaxInt} {
			y := x
			y.Num = n
			l = append(l, y)
		}
		x.Name = "a"
		l = append(l, x)
	}
	return l
}

// P5.3: nodes that have not the form, alone and in each place of an operand.
func TestWrongNodes(t *testing.T) {
	a := variable("a")
	for _, x := range wrongNodes() {
		checkWrong(t, x)
		checkWrong(t, one(api.OpNeg, x))
		checkWrong(t, one(api.OpNot, one(api.OpNeg, x)))
		for s := range referenceOps {
			checkWrong(t, both(x, s, a))
			checkWrong(t, both(a, s, x))
			checkWrong(t, both(both(a, s, both(x, "*", a)), "-", a))
		}
	}
}

// P5.3: how far operands nest: each sign and each parenthesis that the text needs is a level.
func TestTextNesting(t *testing.T) {
	for levels := range 45 {
		check := checkWrong
		if levels <= api.MaxNest {
			check = func(t *testing.T, x api.Expr) { t.Helper(); checkText(t, x, referenceText(x)) }
		}
		for _, inner := range []api.Expr{integer(1), in("s"), variable("a")} {
			x := inner
			for i := range levels {
				x = one(api.OpNeg+i%2, x)
			}
			check(t, x)
			check(t, both(x, "*", inner))
			check(t, both(inner, "*", x))
			x = both(inner, "-", inner)
			for range levels {
				x = both(inner, "-", x)
			}
			check(t, x)
			x = both(inner, "*", inner)
			for range levels {
				x = both(both(inner, "+", x), "*", inner)
			}
			check(t, x)
		}
	}
}

// P5.3: a sign ahead of parentheses, again and again, is two levels each.
func TestTextNestingOfBoth(t *testing.T) {
	x := integer(1)
	for range api.MaxNest / 2 {
		x = one(api.OpNeg, both(x, "<", in("s")))
	}
	checkText(t, x, strings.Repeat("-(", 10)+"1"+strings.Repeat(" < in(s))", 10))
	checkText(t, both(x, "||", x), referenceText(both(x, "||", x)))
	checkWrong(t, one(api.OpNot, x))
	checkWrong(t, both(both(x, "-", x), "*", x))
	checkWrong(t, one(api.OpNeg, both(x, "<", in("s"))))
}

// P5.3: what needs no parentheses does not nest, however deep the tree is; levels that have ended do not count.
func TestTextNestingEnds(t *testing.T) {
	deep := variable("a")
	for range api.MaxNest {
		deep = one(api.OpNot, deep)
	}
	x := deep
	for range 100 {
		x = both(x, "-", deep)
	}
	checkText(t, x, strings.Repeat(strings.Repeat("!", 20)+"a - ", 100)+strings.Repeat("!", 20)+"a")
	checkWrong(t, both(x, "-", one(api.OpNeg, deep)))
	checkWrong(t, both(variable("b"), "-", x))
	checkText(t, both(variable("b"), "-", both(deep, "*", deep)), "b - "+strings.Repeat("!", 20)+"a * "+strings.Repeat("!", 20)+"a")
}

// chain is a sum whose text has so many bytes, at least five.
func chain(size int) api.Expr {
	x := variable(strings.Repeat("f", 1+(size-1)%4))
	for range (size - 1) / 4 {
		x = both(x, "+", variable("a"))
	}
	return x
}

// P5.3: texts as long as a source, and a byte longer.
func TestTextLength(t *testing.T) {
	for _, size := range []int{5, 100, 101, 102, 103, api.MaxSource - 3, api.MaxSource - 2, api.MaxSource - 1, api.MaxSource} {
		x := chain(size)
		checkText(t, x, referenceText(x))
		if n := len(expr.Text(x)); n != size {
			t.Errorf("a chain of %d bytes has %d", size, n)
		}
		checkWrong(t, both(x, "%", chain(api.MaxSource)))
	}
	for _, size := range []int{api.MaxSource + 1, api.MaxSource + 2, api.MaxSource + 3, api.MaxSource + 4, 2 * api.MaxSource, 1 << 18} {
		checkWrong(t, chain(size))
	}
	checkText(t, one(api.OpNeg, chain(api.MaxSource-3)), "-("+referenceText(chain(api.MaxSource-3))+")")
	checkWrong(t, one(api.OpNeg, chain(api.MaxSource-2)))
	checkText(t, both(in("b"), "-", chain(api.MaxSource-10)), "in(b) - ("+referenceText(chain(api.MaxSource-10))+")")
	checkWrong(t, both(in("b"), "-", chain(api.MaxSource-9)))
	checkText(t, both(chain(api.MaxSource-8), "<=", integer(1000)), referenceText(chain(api.MaxSource-8))+" <= 1000")
	checkWrong(t, both(chain(api.MaxSource-8), "<=", integer(10000)))
	checkWrong(t, both(chain(api.MaxSource-3), "<", variable("a")))
	checkText(t, both(chain(api.MaxSource-4), "<", variable("a")), referenceText(chain(api.MaxSource-4))+" < a")
}

// P5.3, W1: trees that are too deep, too wide, or whose operands are one another's, end without having been gone through.
func TestTextOfMonsters(t *testing.T) {
	left, right, signs, shared, wide := variable("a"), variable("a"), variable("a"), variable("a"), make([]api.Expr, 1<<20)
	for range 1 << 16 {
		left, right, signs = both(left, "-", integer(1)), both(integer(1), "-", right), one(api.OpNeg, signs)
	}
	for range 60 {
		shared = both(shared, "*", shared)
	}
	for _, x := range []api.Expr{left, right, signs, shared, one(api.OpNeg, left), both(shared, "+", left), {Kind: api.ExprBoth, Op: api.OpAdd, Subs: wide}, {Kind: api.ExprVar, Name: "a", Subs: wide}} {
		checkWrong(t, x)
	}
	round := make([]api.Expr, 2)
	round[0], round[1] = api.Expr{Kind: api.ExprBoth, Op: api.OpAdd, Subs: round}, variable("a")
	if expr.Right(round[0]) || expr.Text(round[0]) != "" {
		t.Error("a tree within itself is right")
	}
}

// P5.3: random trees, and the same with one node changed.
func TestTextRandomTrees(t *testing.T) {
	r := rand.New(rand.NewSource(3))
	wrong := wrongNodes()
	for range 5000 {
		x := anyTree(r, 1+r.Intn(6))
		checkText(t, x, referenceText(x))
		node := &x
		for len(node.Subs) > 0 && r.Intn(4) > 0 {
			node = &node.Subs[r.Intn(len(node.Subs))]
		}
		*node = wrong[r.Intn(len(wrong))]
		checkWrong(t, x)
		if t.Failed() {
			return
		}
	}
}
