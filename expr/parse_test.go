package expr_test

import (
	"math/rand"
	"slices"
	"strings"
	"testing"

	"pavane/api"
	"pavane/expr"
)

func name(text string) api.Token { return api.Token{Kind: api.TokName, Text: text} }
func word(text string) api.Token { return api.Token{Kind: api.TokWord, Text: text} }
func sign(text string) api.Token { return api.Token{Kind: api.TokSign, Text: text} }
func number(n int) api.Token     { return api.Token{Kind: api.TokInt, Num: n} }

// list are the tokens with an end behind them, each at an offset that is not its index.
func list(l ...api.Token) []api.Token {
	l = append(slices.Clone(l), api.Token{Kind: api.TokEnd})
	for i := range l {
		l[i].At = 3*i + 5
	}
	return l
}

func checkParse(t *testing.T, l []api.Token, at int, want api.Expr, next int) {
	t.Helper()
	if x, n, f := expr.Parse(l, at); f != (api.Fault{}) || n != next || !same(x, want) {
		t.Errorf("Parse(%v, %d): %s, %d, %v; want %s, %d", l[:min(len(l), 20)], at, shown(x), n, f, shown(want), next)
	}
}

func checkParseFault(t *testing.T, l []api.Token, at int, want api.Fault) {
	t.Helper()
	if x, n, f := expr.Parse(l, at); f != want || n != 0 || !isZero(x) {
		t.Errorf("Parse(%v, %d): %s, %d, %v; want nothing and %v", l[:min(len(l), 20)], at, shown(x), n, f, want)
	}
}

// checkReference holds Parse against the reference.
func checkReference(t *testing.T, l []api.Token, at int) {
	t.Helper()
	x, next, fault := reference(l, at)
	if fault.Code != api.OK {
		checkParseFault(t, l, at, fault)
		return
	}
	checkParse(t, l, at, x, next)
}

// P5.1: an index that is none, no end behind, or another one ahead of it.
func TestParseArguments(t *testing.T) {
	none := api.Fault{Code: api.ErrArg, At: -1}
	a, end := api.Token{Kind: api.TokName, Text: "a", At: 4}, api.Token{Kind: api.TokEnd, At: 6}
	for _, at := range []int{api.MinInt, -2, -1, 2, 3, api.MaxInt} {
		checkParseFault(t, []api.Token{a, end}, at, none)
	}
	for _, l := range [][]api.Token{nil, {}, {a}, {a, a}, {end, a}, {a, end, a}, {end, end}, {a, end, end}, {end, a, end}, {a, end, a, end}, {a, {}}, {a, {Kind: 6}}} {
		for at := range 4 {
			checkParseFault(t, l, at, none)
		}
	}
	checkParse(t, []api.Token{a, end}, 0, placed(4, variable("a")), 1)
	checkParseFault(t, []api.Token{a, end}, 1, api.Fault{Code: api.ErrEnd, At: 6})
	checkParseFault(t, []api.Token{end}, 0, api.Fault{Code: api.ErrEnd, At: 6})
	checkParse(t, []api.Token{a, end, a}[:2], 0, placed(4, variable("a")), 1)
}

// P5.1: an expression within others' tokens, from any of its own on.
func TestParseFromTheMiddle(t *testing.T) {
	l := tokens(t, "set x = a + 2 * in(s); emit e")
	checkParse(t, l, 3, placed(8, both(placed(8, variable("a")), "+", placed(12, both(placed(12, integer(2)), "*", placed(16, in("s")))))), 11)
	checkParse(t, l, 5, placed(12, both(placed(12, integer(2)), "*", placed(16, in("s")))), 11)
	checkParse(t, l, 7, placed(16, in("s")), 11)
	checkParse(t, l, 9, placed(19, variable("s")), 10)
	checkParse(t, l, 13, placed(28, variable("e")), 14)
	checkParse(t, l, 1, placed(4, variable("x")), 2)
	checkParse(t, l, 8, placed(19, variable("s")), 11)
	for _, at := range []int{0, 2, 4, 6, 10, 11, 12} {
		checkParseFault(t, l, at, api.Fault{Code: api.ErrForm, At: l[at].At})
	}
	checkParseFault(t, l, 14, api.Fault{Code: api.ErrEnd, At: 29})
}

// P5.1: what stands behind an expression is left alone, whatever it is.
func TestParseEndsBehind(t *testing.T) {
	for _, behind := range []api.Token{name("b"), number(3), word("in"), word("state"), sign("("), sign(")"), sign("["), sign("]"), sign("{"), sign("}"), sign(";"), sign(","), sign("->"), sign("="), sign("!"), sign("&"), sign(""), {}, {Kind: 9}} {
		checkParse(t, list(name("a"), behind, name("c")), 0, placed(5, variable("a")), 1)
		checkParse(t, list(sign("-"), number(2), behind), 0, placed(5, one(api.OpNeg, placed(8, integer(2)))), 2)
		checkParse(t, list(sign("("), name("a"), sign(")"), behind), 0, placed(8, variable("a")), 3)
	}
}

// P5.1: each operator, with the offset of its first operand's first token, though a parenthesis stands ahead of it.
func TestParseOffsets(t *testing.T) {
	for s := range referenceOps {
		checkParse(t, list(name("a"), sign(s), name("b")), 0, placed(5, both(placed(5, variable("a")), s, placed(11, variable("b")))), 3)
		checkParse(t, list(sign("("), name("a"), sign(")"), sign(s), sign("!"), name("b")), 0, placed(8, both(placed(8, variable("a")), s, placed(17, one(api.OpNot, placed(20, variable("b")))))), 6)
	}
	checkParse(t, []api.Token{{Kind: api.TokInt, Num: 1, At: -7}, {Kind: api.TokSign, Text: "<", At: api.MaxInt}, {Kind: api.TokInt, At: api.MinInt}, {Kind: api.TokEnd, At: -1}}, 0,
		placed(-7, both(placed(-7, integer(1)), "<", placed(api.MinInt, integer(0)))), 3)
	checkParseFault(t, []api.Token{{Kind: api.TokSign, Text: "!", At: 3}, {Kind: api.TokEnd, At: -9}}, 0, api.Fault{Code: api.ErrEnd, At: -9})
}

// P5.1: tokens that no source has, and words that no expression has, cannot occur.
func TestParseUnfitTokens(t *testing.T) {
	unfits := []api.Token{
		{}, {Kind: -1}, {Kind: 6, Text: "a"}, {Kind: 99, Text: "(", Num: 1}, word("state"), word("on"), word(""), word("a"), word("IN"), word("in "),
		sign(""), sign("in"), sign("a"), sign("1"), sign("- "), sign("--"), sign("+"), sign("*"), sign("=="), sign("!="), sign("->"), sign("="), sign(")"), sign("["), sign("{"), sign(";"), sign(","),
		name(""), name("in"), name("state"), name("1a"), name("a b"), name("a "), name("("), name("é"), name(strings.Repeat("a", api.MaxName+1)),
		number(-1), number(api.MinInt),
	}
	for _, u := range unfits {
		checkParseFault(t, list(u), 0, api.Fault{Code: api.ErrForm, At: 5})
		checkParseFault(t, list(u, name("a")), 0, api.Fault{Code: api.ErrForm, At: 5})
		checkParseFault(t, list(sign("-"), u), 0, api.Fault{Code: api.ErrForm, At: 8})
		checkParseFault(t, list(sign("("), u), 0, api.Fault{Code: api.ErrForm, At: 8})
		checkParseFault(t, list(name("a"), sign("*"), u), 0, api.Fault{Code: api.ErrForm, At: 11})
		checkParseFault(t, list(word("in"), sign("("), u, sign(")")), 0, api.Fault{Code: api.ErrForm, At: 11})
		checkParseFault(t, list(word("in"), u, name("a"), sign(")")), 0, api.Fault{Code: api.ErrForm, At: 8})
	}
	for _, u := range []api.Token{number(0), word("in"), sign("-"), sign("!"), sign("(")} {
		checkParseFault(t, list(word("in"), sign("("), u, sign(")")), 0, api.Fault{Code: api.ErrForm, At: 11})
	}
	for _, u := range []api.Token{name("a"), number(0), word("in"), sign("["), sign("->")} {
		checkParseFault(t, list(sign("("), name("a"), u), 0, api.Fault{Code: api.ErrForm, At: 11})
		checkParseFault(t, list(word("in"), sign("("), name("a"), u), 0, api.Fault{Code: api.ErrForm, At: 14})
	}
}

// P5.1: what a token has beside what its kind needs is nothing to a tree.
func TestParseIgnoresTheRest(t *testing.T) {
	checkParse(t, []api.Token{{Kind: api.TokInt, Text: "a", Num: 2, At: 1}, {Kind: api.TokSign, Text: "+", Num: -4, At: 2}, {Kind: api.TokName, Text: "b", Num: 7, At: 3}, {Kind: api.TokEnd, Text: "+", Num: 1, At: 4}}, 0,
		placed(1, both(placed(1, integer(2)), "+", placed(3, variable("b")))), 3)
	checkParseFault(t, []api.Token{{Kind: api.TokEnd, Text: "a", Num: 1, At: 4}}, 0, api.Fault{Code: api.ErrEnd, At: 4})
}

// P5.1: an end within an expression, after each of its tokens.
func TestParseEndsEarly(t *testing.T) {
	l := tokens(t, "!in(s) - (-a + (2 * b)")
	for many := range len(l) {
		early := append(slices.Clone(l[:many]), api.Token{Kind: api.TokEnd, At: 100})
		if many == 5 { // a whole one so far
			checkParse(t, early, 0, placed(0, one(api.OpNot, placed(1, in("s")))), 5)
			continue
		}
		checkParseFault(t, early, 0, api.Fault{Code: api.ErrEnd, At: 100})
	}
}

// within is a text of so many levels: each of the signs, one after the other, with what ends them.
func within(levels int, signs, inner string) string {
	front, back := "", ""
	for i := range levels {
		s := signs[i%len(signs)]
		front += string(s)
		if s == '(' {
			back = ")" + back
		}
	}
	return front + inner + back
}

// P5.1: twenty levels of each kind, and one more.
func TestParseNesting(t *testing.T) {
	for _, signs := range []string{"-", "!", "(", "-(", "(-", "!(-", "((!"} {
		for _, inner := range []string{"a", "0", "in(s)", "a - b", "a == b - c * d || e - 1"} {
			for _, levels := range []int{0, 1, 19, 20} {
				l := tokens(t, within(levels, signs, inner))
				checkReference(t, l, 0)
				if _, n, f := expr.Parse(l, 0); f != (api.Fault{}) || n != len(l)-1 {
					t.Errorf("Parse of %d levels of %q: %d, %v; want %d", levels, signs, n, f, len(l)-1)
				}
			}
			for _, levels := range []int{21, 22, 40, 5000} {
				checkParseFault(t, tokens(t, within(levels, signs, inner)), 0, api.Fault{Code: api.ErrNest, At: 20})
			}
		}
		for _, behind := range []string{"-", "!", "(", "-a", "(a", "!)", "((((;"} {
			checkParseFault(t, tokens(t, within(20, signs, "")[:20]+behind), 0, api.Fault{Code: api.ErrNest, At: 20})
			checkParseFault(t, tokens(t, within(20, "(", "")[:20]+"a*"+behind), 0, api.Fault{Code: api.ErrNest, At: 22})
			checkReference(t, tokens(t, within(20, signs, "")[:20]+"a*"+behind), 0)
		}
		for _, behind := range []string{"", ";", ")", "*a", "in a", "in", "[", "+(", "a-a", "a)*-(a"} {
			checkReference(t, tokens(t, within(20, signs, "")[:20]+behind), 0)
		}
	}
}

// P5.1: a level ends with its operand, and operators side by side add none.
func TestParseNestingEnds(t *testing.T) {
	full := within(20, "-(", "a")
	s := full + strings.Repeat(" + "+full+" * b < "+full, 50)
	l := tokens(t, s)
	checkReference(t, l, 0)
	if _, n, f := expr.Parse(l, 0); f != (api.Fault{}) || n != len(l)-1 {
		t.Errorf("Parse: %d, %v; want %d", n, f, len(l)-1)
	}
	checkReference(t, tokens(t, "(("+within(18, "(", "a")+"-"+within(18, "-", "b")+")*"+within(19, "!", "c")+")"), 0)
	checkReference(t, tokens(t, "(("+within(18, "(", "a")+"-"+within(18, "-", "b")+")*"+within(20, "!", "c")+")"), 0)
}

// P5.1: lists of tokens far longer than any source.
func TestParseLongLists(t *testing.T) {
	var l []api.Token
	for range 100000 {
		l = append(l, name("a"), sign("-"))
	}
	l = list(append(l, name("b"))...)
	x, n, f := expr.Parse(l, 0)
	if f != (api.Fault{}) || n != len(l)-1 {
		t.Fatalf("Parse: %d, %v; want %d", n, f, len(l)-1)
	}
	for i := range 100000 {
		if x.Kind != api.ExprBoth || x.Op != api.OpSub || len(x.Subs) != 2 || x.At != 5 || x.Subs[1].At != 3*(200000-2*i)+5 {
			t.Fatalf("node %d is not the difference that it should be", i)
		}
		x = x.Subs[0]
	}
	if !same(x, placed(5, variable("a"))) {
		t.Errorf("the innermost operand is %+v", x)
	}
	checkParseFault(t, l[:len(l)-1], 0, api.Fault{Code: api.ErrArg, At: -1})
}

// P5.1: all lists of at most five tokens.
func TestParseShortLists(t *testing.T) {
	all := []api.Token{name("a"), number(1), word("in"), word("var"), sign("("), sign(")"), sign("-"), sign("!"), sign("*"), sign("=="), sign(";")}
	var grow func(l []api.Token, more int)
	grow = func(l []api.Token, more int) {
		checkReference(t, list(l...), 0)
		if more == 0 || t.Failed() {
			return
		}
		for _, x := range all {
			grow(append(l, x), more-1)
		}
	}
	grow(nil, 5)
}

// P5.1: random lists, from each of their tokens on.
func TestParseRandomLists(t *testing.T) {
	r := rand.New(rand.NewSource(1))
	starts := []api.Token{name("a"), name("b2"), number(0), number(api.MaxInt), word("in"), sign("("), sign("("), sign("-"), sign("!")}
	others := []api.Token{sign(")"), sign(")"), sign("+"), sign("-"), sign("*"), sign("/"), sign("%"), sign("<"), sign("<="), sign(">"), sign(">="), sign("=="), sign("!="), sign("&&"), sign("||")}
	for range 20000 {
		var l []api.Token
		for range r.Intn(30) {
			switch r.Intn(20) {
			case 0:
				l = append(l, word("in"), sign("("), name("s"), sign(")"))
			case 1:
				l = append(l, []api.Token{sign(";"), word("set"), name("in"), number(-1), {Kind: 7}}[r.Intn(5)])
			case 2, 3, 4, 5:
				l = append(l, others[r.Intn(len(others))])
			case 6, 7, 8, 9, 10, 11:
				l = append(l, starts[r.Intn(4)], others[r.Intn(len(others))])
			default:
				l = append(l, starts[r.Intn(len(starts))])
			}
		}
		l = list(l...)
		for at := range l {
			checkReference(t, l, at)
		}
		if t.Failed() {
			return
		}
	}
}
