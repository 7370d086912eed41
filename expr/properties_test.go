package expr_test

import (
	"math/rand"
	"strings"
	"testing"

	"pavane/api"
	"pavane/expr"
)

// checkInverse holds that Read inverts Text on a right expression.
func checkInverse(t *testing.T, x api.Expr) {
	t.Helper()
	s := expr.Text(x)
	if !expr.Right(x) || s == "" {
		t.Fatalf("%s is not right", shown(x))
	}
	if y, f := expr.Read(s); f != (api.Fault{}) || !same(placeless(y), placeless(x)) {
		t.Fatalf("Read(%q): %s, %v; want %s", start(s), shown(y), f, shown(x))
	}
}

// P5.5: Read inverts Text, apart from offsets.
func TestReadInvertsText(t *testing.T) {
	r := rand.New(rand.NewSource(4))
	for range 5000 {
		checkInverse(t, anyTree(r, 1+r.Intn(7)))
	}
	checkInverse(t, chain(api.MaxSource))
	for _, s := range []string{within(20, "-(", "a+b"), within(20, "(", "a"), within(20, "!", "in(s)"), "a-" + within(20, "(", "b-c")} {
		checkInverse(t, read(t, s))
	}
}

// P5.5: what Read returns is right, and its text parses to the same and is formatted the same.
func TestWhatReadReturns(t *testing.T) {
	for seed := range 3000 {
		w := wordy{Rand: rand.New(rand.NewSource(int64(seed)))}
		w.tree(anyTree(w.Rand, 1+w.Intn(6)), false)
		x, f := expr.Read(w.String())
		if f.Code == api.ErrNest {
			continue
		}
		if f != (api.Fault{}) {
			t.Fatalf("Read(%q): %v", w.String(), f)
		}
		checkInverse(t, x)
		s := expr.Text(x)
		if again := expr.Text(read(t, s)); again != s {
			t.Fatalf("%q is formatted as %q", s, again)
		}
	}
}

// P5.5: what Read returns is not right if its text is longer than a source, though what was read is none.
func TestReadOfLongText(t *testing.T) {
	x := read(t, strings.Repeat("a+", api.MaxSource/2-1)+"a")
	if expr.Right(x) || expr.Text(x) != "" {
		t.Error("an expression is right whose text is longer than a source")
	}
	checkInverse(t, read(t, strings.Repeat("a+", api.MaxSource/4-1)+"a"))
}

// P5.5: a text has no parentheses that could be left out.
func TestTextIsShortest(t *testing.T) {
	r := rand.New(rand.NewSource(5))
	for range 3000 {
		x := anyTree(r, 2+r.Intn(4))
		s := expr.Text(x)
		for i := range s {
			if s[i] != '(' || i > 1 && s[i-2:i] == "in" {
				continue
			}
			without := s[:i] + s[i+1:closing(s, i)] + s[closing(s, i)+1:]
			if y, f := expr.Read(without); f == (api.Fault{}) && same(placeless(y), x) {
				t.Fatalf("%q is the same as %q", without, s)
			}
		}
	}
}

// closing is where the parenthesis closes that opens at an offset.
func closing(s string, at int) int {
	for open := 0; ; at++ {
		switch s[at] {
		case '(':
			open++
		case ')':
			open--
		}
		if open == 0 {
			return at
		}
	}
}

// W2: the same text has the same tree, whatever was read before, and the same tree the same text.
func TestReadAgain(t *testing.T) {
	r := rand.New(rand.NewSource(6))
	for range 500 {
		s := referenceText(anyTree(r, 4)) + []string{"", " )", " +"}[r.Intn(3)]
		x, f := expr.Read(s)
		text := expr.Text(x)
		expr.Read(referenceText(anyTree(r, 4)))
		if y, g := expr.Read(s); g != f || !same(x, y) || expr.Text(y) != text {
			t.Fatalf("Read(%q): %s, %v, and then %s, %v", s, shown(x), f, shown(y), g)
		}
	}
}
