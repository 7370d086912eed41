package expr_test

import (
	"math/rand"
	"strings"
	"testing"

	"pavane/api"
	"pavane/expr"
	"pavane/scan"
)

func checkRead(t *testing.T, s string, want api.Expr) {
	t.Helper()
	if x, f := expr.Read(s); f != (api.Fault{}) || !same(placeless(x), want) {
		t.Errorf("Read(%q): %s, %v; want %s", start(s), shown(x), f, shown(want))
	}
}

func checkReadFault(t *testing.T, s string, code api.Errno, at int) {
	t.Helper()
	if x, f := expr.Read(s); f != (api.Fault{Code: code, At: at}) || !isZero(x) {
		t.Errorf("Read of %d bytes %q: %s, %v; want nothing and {%d %d}", len(s), start(s), shown(x), f, code, at)
	}
}

// P5.2: the document's examples.
func TestReadExamples(t *testing.T) {
	a, b := variable("a"), variable("b")
	checkRead(t, "a - b - 1", both(both(a, "-", b), "-", integer(1)))
	checkRead(t, "-a * !b <= c == in(d) && e || f",
		both(both(both(both(both(one(api.OpNeg, a), "*", one(api.OpNot, b)), "<=", variable("c")), "==", in("d")), "&&", variable("e")), "||", variable("f")))
	checkReadFault(t, "a +", api.ErrEnd, 3)
	checkReadFault(t, "(a", api.ErrEnd, 2)
	checkReadFault(t, "a b", api.ErrForm, 2)
	checkReadFault(t, "in(1)", api.ErrForm, 3)
	checkReadFault(t, "in x", api.ErrForm, 3)
	checkReadFault(t, "", api.ErrEnd, 0)
}

// P5.2: each operand alone, with its offset.
func TestReadOperands(t *testing.T) {
	long := strings.Repeat("q", api.MaxName)
	for s, want := range map[string]api.Expr{
		"0": integer(0), "9223372036854775807": integer(api.MaxInt), "a": variable("a"), "_": variable("_"), "in_": variable("in_"), long: variable(long),
		"in(a)": in("a"), "in(" + long + ")": in(long), "-0": one(api.OpNeg, integer(0)), "-9223372036854775807": one(api.OpNeg, integer(api.MaxInt)),
		"!a": one(api.OpNot, variable("a")), "!in(a)": one(api.OpNot, in("a")), "--a": one(api.OpNeg, one(api.OpNeg, variable("a"))), "!-a": one(api.OpNot, one(api.OpNeg, variable("a"))),
		"(a)": variable("a"), "((in(a)))": in("a"), "-(a)": one(api.OpNeg, variable("a")), "(-a)": one(api.OpNeg, variable("a")),
	} {
		checkRead(t, s, want)
		checkRead(t, " \n"+s+" // "+s, want)
		x := read(t, "\t"+s)
		if at := 1 + strings.Count(s[:strings.IndexAny(s, "0123456789aqi_-!")], "("); x.At != at {
			t.Errorf("Read(%q) stands at %d; want %d", s, x.At, at)
		}
	}
}

// P5.2: of each two operators, which one is the inner one; and what parentheses and signs in front change.
func TestReadOperatorPairs(t *testing.T) {
	a, b, c := variable("a"), variable("b"), variable("c")
	for s := range referenceOps {
		for u := range referenceOps {
			left, right := both(both(a, s, b), u, c), both(a, s, both(b, u, c))
			if lineOf(u) > lineOf(s) {
				checkRead(t, "a "+s+" b "+u+" c", right)
			} else {
				checkRead(t, "a"+s+"b"+u+"c", left)
			}
			checkRead(t, "(a"+s+"b)"+u+"c", left)
			checkRead(t, "a"+s+"(b"+u+"c)", right)
			checkRead(t, "(a)"+s+"-(b"+u+"c)", both(a, s, one(api.OpNeg, both(b, u, c))))
		}
		checkRead(t, "-a "+s+" !b", both(one(api.OpNeg, a), s, one(api.OpNot, b)))
		checkRead(t, "-(a "+s+" !b)", one(api.OpNeg, both(a, s, one(api.OpNot, b))))
		checkRead(t, "in(a)"+s+"in(b)", both(in("a"), s, in("b")))
		checkRead(t, "a"+s+"b"+s+"c"+s+"a", both(both(both(a, s, b), s, c), s, a))
	}
}

// P5.2: the faults of scan come ahead of those of the tokens in front of them.
func TestReadScanFaults(t *testing.T) {
	checkReadFault(t, "$", api.ErrForm, 0)
	checkReadFault(t, "a b $", api.ErrForm, 4)
	checkReadFault(t, ") 01", api.ErrForm, 2)
	checkReadFault(t, "a + + 1a", api.ErrForm, 6)
	checkReadFault(t, "a & b", api.ErrForm, 2)
	checkReadFault(t, "* 9223372036854775808", api.ErrNum, 2)
	checkReadFault(t, "a "+strings.Repeat("q", api.MaxName+1), api.ErrLong, 2)
	checkReadFault(t, strings.Repeat("-", 21)+" | a", api.ErrForm, 22)
	checkReadFault(t, strings.Repeat(" ", api.MaxSource)+"a", api.ErrLong, -1)
	checkReadFault(t, "a b"+strings.Repeat(" ", api.MaxSource), api.ErrLong, -1)
	checkRead(t, strings.Repeat(" ", api.MaxSource-1)+"a", variable("a"))
}

// P5.2: the faults of Parse come ahead of what stands behind.
func TestReadParseFaults(t *testing.T) {
	for _, s := range []string{" ", "// a", "(", "-", "!", "a ||", "in", "in(", "in(a", "(a", "(a + b", "-(a - (b)"} {
		checkReadFault(t, s, api.ErrEnd, len(s))
	}
	checkReadFault(t, ") a", api.ErrForm, 0)
	checkReadFault(t, "()", api.ErrForm, 1)
	checkReadFault(t, "(a b) c", api.ErrForm, 3)
	checkReadFault(t, "a + * b", api.ErrForm, 4)
	checkReadFault(t, "a < = b", api.ErrForm, 4)
	checkReadFault(t, "a !b", api.ErrForm, 2)
	checkReadFault(t, "in(in)", api.ErrForm, 3)
	checkReadFault(t, "in((a))", api.ErrForm, 3)
	checkReadFault(t, "in(a b)", api.ErrForm, 5)
	checkReadFault(t, "in()", api.ErrForm, 3)
	checkReadFault(t, "a + state", api.ErrForm, 4)
	checkReadFault(t, "+a", api.ErrForm, 0)
	checkReadFault(t, strings.Repeat("(", 21)+")", api.ErrNest, 20)
	checkReadFault(t, "a * "+strings.Repeat("!", 21)+"b c", api.ErrNest, 24)
}

// P5.2: anything but the end behind an expression.
func TestReadBehind(t *testing.T) {
	for _, s := range []string{"b", "1", "in", "in(b)", "state", "(", ")", "[", "]", "{", "}", ";", ",", "->", "=", "!", "!b", "(b)", ") + b"} {
		checkReadFault(t, "a "+s, api.ErrForm, 2)
		checkReadFault(t, "(a) "+s+" 7", api.ErrForm, 4)
		checkReadFault(t, "in(a) "+s, api.ErrForm, 6)
		checkReadFault(t, "-1 "+s, api.ErrForm, 3)
	}
}

// wordy writes trees with more parentheses and white space than there need be.
type wordy struct {
	strings.Builder
	*rand.Rand
}

// put writes a token, and tells where it stands.
func (w *wordy) put(s string) int {
	w.WriteString([]string{"", "", " ", "\n", "\t\r", " // ( 1a $\n"}[w.Intn(6)])
	w.WriteString(s)
	return w.Len() - len(s)
}

// tree writes a tree, in parentheses if it must stand in some, and answers it with its offsets.
func (w *wordy) tree(x api.Expr, must bool) api.Expr {
	if must || w.Intn(8) == 0 {
		w.put("(")
		x = w.tree(x, false)
		w.put(")")
		return x
	}
	switch x.Kind {
	case api.ExprInt, api.ExprVar:
		x.At = w.put(referenceText(x))
		return x
	case api.ExprIn:
		x.At = w.put("in")
		w.put("(")
		w.put(x.Name)
		w.put(")")
		return x
	case api.ExprOne:
		x.At = w.put(referenceText(x)[:1])
		x.Subs = []api.Expr{w.tree(x.Subs[0], x.Subs[0].Kind == api.ExprBoth)}
		return x
	}
	line := lineOf(signOf(x.Op))
	left := w.tree(x.Subs[0], x.Subs[0].Kind == api.ExprBoth && lineOf(signOf(x.Subs[0].Op)) < line)
	w.put(signOf(x.Op))
	right := w.tree(x.Subs[1], x.Subs[1].Kind == api.ExprBoth && lineOf(signOf(x.Subs[1].Op)) <= line)
	return api.Expr{Kind: x.Kind, Op: x.Op, Subs: []api.Expr{left, right}, At: left.At}
}

// P5.2: random trees, with each node's offset; and the same text with a token too many.
func TestReadRandomTrees(t *testing.T) {
	for seed := range 5000 {
		w := wordy{Rand: rand.New(rand.NewSource(int64(seed)))}
		want := w.tree(anyTree(w.Rand, 1+w.Intn(6)), false)
		s := w.String()
		if len(s) > api.MaxSource-10 {
			t.Fatalf("seed %d: the text has %d bytes", seed, len(s))
		}
		x, f := expr.Read(s)
		if f.Code == api.ErrNest {
			continue // more parentheses than may be
		}
		if f != (api.Fault{}) || !same(x, want) {
			t.Fatalf("Read(%q): %s, %v; want %s", s, shown(x), f, shown(want))
		}
		checkReadFault(t, s+" ) ;", api.ErrForm, len(s)+1)
		checkReadFault(t, s+" - ", api.ErrEnd, len(s)+3)
		checkReadFault(t, s+" 7", api.ErrForm, len(s)+1)
	}
}

// P5.2: texts of random pieces, against the tokens of scan and the reference.
func TestReadRandomTexts(t *testing.T) {
	pieces := strings.Split("a|b1|in|in(s)|on|1|20|01|1a|(|)|-|!|+|*|/|%|<|<=|>|>=|==|!=|&&|$|&|;|=|->|[| |\n|//|//\n", "|")
	pieces = append(pieces, "||")
	r := rand.New(rand.NewSource(2))
	for range 100000 {
		s := ""
		for range r.Intn(9) {
			s += pieces[r.Intn(len(pieces))]
		}
		l, fault := scan.Tokens(s)
		var want api.Expr
		if fault.Code == api.OK {
			var next int
			want, next, fault = reference(l, 0)
			if fault.Code == api.OK && next != len(l)-1 {
				want, fault = api.Expr{}, api.Fault{Code: api.ErrForm, At: l[next].At}
			}
		}
		if x, f := expr.Read(s); f != fault || !same(x, want) {
			t.Fatalf("Read(%q): %s, %v; want %s, %v", s, shown(x), f, shown(want), fault)
		}
	}
}
