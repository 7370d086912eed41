package eval_test

import (
	"math/rand"
	"testing"

	"pavane/api"
	"pavane/calc"
)

// P6.2: the names of expressions, each once, in ascending order of their bytes.
func TestNames(t *testing.T) {
	for s, want := range map[string][2][]string{
		"5":                                   {},
		"a":                                   {{"a"}, nil},
		"in(a)":                               {nil, {"a"}},
		"y + x * x + in(b) + in(a)":           {{"x", "y"}, {"a", "b"}},
		"in(a) && a || in(a) && a":            {{"a"}, {"a"}},
		"b - a - B - _ - a1 - A - aa - a - b": {{"A", "B", "_", "a", "a1", "aa", "b"}, nil},
		"in(z) + in(Z) + in(_z) + in(z9)":     {nil, {"Z", "_z", "z", "z9"}},
		"0 && -(!p * (q - in(s)))":            {{"p", "q"}, {"s"}},
		"1 || c / 0 == in(t) % d":             {{"c", "d"}, {"t"}},
	} {
		checkNames(t, read(t, s), want[0], want[1])
	}
}

// P6.2: names of any bytes, an empty one too, are ordered by their bytes, not by letters.
func TestNamesOfAnyBytes(t *testing.T) {
	sorted := []string{"", "\x00", "\x00a", " ", "1", "A", "Z", "a", "a\x00", "aa", "ab", "in", "z", "\x80", "é", "\ufffd", "\xff", "\xff\xfe"}
	variables, states := integer(1), integer(1)
	for i := range sorted {
		variables = both(api.OpAdd, variable(sorted[len(sorted)-1-i]), variables)
		states = both(api.OpAdd, states, in(sorted[(i*7)%len(sorted)]))
	}
	checkNames(t, variables, sorted, nil)
	checkNames(t, states, nil, sorted)
	checkNames(t, both(99, states, variables), sorted, sorted)
}

// P6.2: the names of nodes of other kinds are none of them.
func TestNamesOfOtherKinds(t *testing.T) {
	for _, kind := range []int{0, -1, api.ExprInt, api.ExprOne, api.ExprBoth, 6, 99, 1<<32 + 2, 1<<32 + 3, api.MaxInt, api.MinInt} {
		checkNames(t, api.Expr{Kind: kind, Name: "a", Op: api.OpAdd, Num: 2}, nil, nil)
		checkNames(t, api.Expr{Kind: kind, Name: "a", Op: 3, Subs: []api.Expr{variable("v"), in("s"), {Name: "b"}}}, []string{"v"}, []string{"s"})
	}
}

// P6.2: all nodes count, also those below nodes of no right form, and those that have other fields.
func TestNamesOfAnyNodes(t *testing.T) {
	inner := []api.Expr{{Kind: api.ExprIn, Name: "s", Op: 3, Num: 4, Subs: []api.Expr{variable("c")}}, variable("b"), {Kind: 99, Subs: []api.Expr{in("t")}}}
	checkNames(t, api.Expr{Kind: api.ExprVar, Name: "a", Num: -1, Op: 77, Subs: inner}, []string{"a", "b", "c"}, []string{"s", "t"})
	checkNames(t, one(-3, api.Expr{Kind: api.ExprInt, Subs: inner}), []string{"b", "c"}, []string{"s", "t"})
}

// P6.2: trees of any nodes at all.
func TestNamesAgainstReference(t *testing.T) {
	r := rand.New(rand.NewSource(2))
	for range 10000 {
		x := anyTree(r, 1+r.Intn(7))
		if r.Intn(2) == 0 {
			x = anyNode(r, 1+r.Intn(6))
		}
		checkNames(t, x, referenceNames(x, api.ExprVar), referenceNames(x, api.ExprIn))
		if t.Failed() {
			return
		}
	}
}

// P6.2, W1: as many nodes within each other as the document's bound allows, and as many beside each other.
func TestNamesOfManyNodes(t *testing.T) {
	left, right, signs := variable("v"), variable("v"), in("s")
	for range 1<<16 - 1 {
		left, right, signs = both(api.OpAdd, left, variable("u")), both(api.OpAdd, in("t"), right), one(api.OpNot, signs)
	}
	checkNames(t, left, []string{"u", "v"}, nil)
	checkNames(t, right, []string{"v"}, []string{"t"})
	checkNames(t, signs, nil, []string{"s"})
	wide := api.Expr{Kind: api.ExprIn, Name: "n7"}
	for i := range 1 << 16 {
		wide.Subs = append(wide.Subs, api.Expr{Kind: api.ExprVar + i%2, Name: "n" + calc.Text(i%3000)})
	}
	checkNames(t, wide, referenceNames(wide, api.ExprVar), referenceNames(wide, api.ExprIn))
}
