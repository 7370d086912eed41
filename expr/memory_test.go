package expr_test

import (
	"math/rand"
	"slices"
	"strings"
	"sync"
	"testing"
	"unsafe"

	"pavane/api"
	"pavane/expr"
)

const memoryText = "-a * !b <= c - (d - 1) == in(s) && e || f % 7"

// scribble writes over all that a slice holds, its spare capacity too.
func scribble[E any](s []E, with E) {
	s = s[:cap(s)]
	for i := range s {
		s[i] = with
	}
}

// scribbleTree writes over each list of a tree, the innermost ones first.
func scribbleTree(x api.Expr) {
	for _, y := range x.Subs {
		scribbleTree(y)
	}
	scribble(x.Subs, api.Expr{Kind: -1, Name: "x", Num: 7})
}

// lists are the lists of a tree, with their spare capacity.
func lists(x api.Expr) [][]api.Expr {
	if cap(x.Subs) == 0 {
		return nil
	}
	l := [][]api.Expr{x.Subs[:cap(x.Subs)]}
	for _, y := range x.Subs {
		l = append(l, lists(y)...)
	}
	return l
}

// P5.4: the tree of Parse shares memory with no other one, and no two lists of it share any.
func TestParseIsFresh(t *testing.T) {
	l := tokens(t, memoryText)
	first, _, _ := expr.Parse(l, 0)
	kept := placeless(first)
	for range 3 {
		x, _, f := expr.Parse(l, 0)
		if f != (api.Fault{}) || !same(placeless(x), kept) {
			t.Fatalf("Parse: %s, %v; want %s", shown(x), f, shown(kept))
		}
		scribbleTree(x)
		if !same(placeless(first), kept) {
			t.Fatal("a tree changes as another one is written over")
		}
	}
	seen := map[*api.Expr]bool{}
	for _, list := range lists(first) {
		for i := range list {
			if seen[&list[i]] {
				t.Fatal("two lists of a tree share memory")
			}
			seen[&list[i]] = true
		}
	}
}

// P5.4: the tree does not change with the tokens, nor with the memory of their texts.
func TestParseDoesNotKeepTokens(t *testing.T) {
	bytes := []byte("abcd")
	text := unsafe.String(&bytes[0], 2)
	l := list(name(text), sign("-"), word("in"), sign("("), name(text), sign(")"))
	x, _, f := expr.Parse(l, 0)
	scribble(l, api.Token{Kind: api.TokInt, Text: "z", Num: 4})
	scribble(bytes, 'z')
	if want := placed(5, both(placed(5, variable("ab")), "-", placed(11, in("ab")))); f != (api.Fault{}) || !same(x, want) {
		t.Errorf("Parse: %s, %v; want %s", shown(x), f, shown(want))
	}
}

// P5.4: the tree of Read does not change with the memory of its text.
func TestReadDoesNotKeepText(t *testing.T) {
	bytes := []byte(memoryText)
	x, _ := expr.Read(unsafe.String(&bytes[0], len(bytes)))
	scribble(bytes, '$')
	if got := expr.Text(x); got != memoryText {
		t.Errorf("Text: %q; want %q", got, memoryText)
	}
}

// P5.4: Parse leaves its tokens as they are, with what lies behind them.
func TestParseChangesNothing(t *testing.T) {
	for _, s := range []string{memoryText, "a +", "(a b", within(21, "(", "a")} {
		l := slices.Grow(tokens(t, s), 9)
		spare := l[:cap(l)]
		for i := len(l); i < len(spare); i++ {
			spare[i] = api.Token{Kind: api.TokEnd, At: i}
		}
		kept := slices.Clone(spare)
		for at := -1; at <= len(l); at++ {
			expr.Parse(l, at)
			if !slices.Equal(spare, kept) {
				t.Fatalf("Parse(%q, %d) changes its tokens", s, at)
			}
		}
	}
}

// P5.4: Right and Text leave a tree as it is, with what lies behind its lists, and the text does not change with it.
func TestTextChangesNothing(t *testing.T) {
	r := rand.New(rand.NewSource(7))
	for range 300 {
		x := roomy(anyTree(r, 5))
		kept := spared(x)
		s := expr.Text(x)
		expr.Right(x)
		if !same(spared(x), kept) {
			t.Fatalf("Text changes %s", shown(x))
		}
		copied := strings.Clone(s)
		scribbleTree(x)
		if s != copied {
			t.Fatal("a text changes with its tree")
		}
	}
	bytes := []byte("ab")
	s := expr.Text(variable(unsafe.String(&bytes[0], 2)))
	scribble(bytes, 'z')
	if s != "ab" {
		t.Errorf("a text changes with the memory of a name: %q", s)
	}
}

// roomy is a tree with two spare nodes behind each list.
func roomy(x api.Expr) api.Expr {
	l := make([]api.Expr, len(x.Subs), len(x.Subs)+2)
	for i, y := range x.Subs {
		l[i] = roomy(y)
	}
	rest := l[len(l):cap(l)]
	rest[0], rest[1] = variable("spare"), integer(5)
	x.Subs = l
	return x
}

// spared is a tree of all that its lists hold, spare or not.
func spared(x api.Expr) api.Expr {
	x.Subs = slices.Clone(x.Subs[:cap(x.Subs)])
	for i := range x.Subs {
		x.Subs[i] = spared(x.Subs[i])
	}
	return x
}

// P5.4: calls at the same time do not touch each other's results.
func TestCallsAtOnce(t *testing.T) {
	want := read(t, memoryText)
	l := tokens(t, memoryText)
	var all sync.WaitGroup
	for range 8 {
		all.Go(func() {
			for range 200 {
				x, f := expr.Read(memoryText)
				y, _, g := expr.Parse(l, 0)
				if f != (api.Fault{}) || g != f || !same(x, want) || !same(y, want) || expr.Text(want) != memoryText {
					t.Error("a call is disturbed by others")
				}
				scribbleTree(x)
				scribbleTree(y)
			}
		})
	}
	all.Wait()
}
