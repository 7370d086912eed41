package eval_test

import (
	"math/rand"
	"slices"
	"sync"
	"testing"
	"unsafe"

	"pavane/api"
	"pavane/eval"
)

// scribble writes over all that a slice holds, its spare capacity too.
func scribble[E any](s []E, with E) {
	s = s[:cap(s)]
	for i := range s {
		s[i] = with
	}
}

// roomy is a tree with two spare nodes behind each list.
func roomy(x api.Expr) api.Expr {
	l := make([]api.Expr, len(x.Subs), len(x.Subs)+2)
	for i, y := range x.Subs {
		l[i] = roomy(y)
	}
	rest := l[len(l):cap(l)]
	rest[0], rest[1] = variable("spare"), integer(5)
	x.Subs = l
	return x
}

// spared is a tree of all that its lists hold, spare or not, in memory of its own.
func spared(x api.Expr) api.Expr {
	x.Subs = slices.Clone(x.Subs[:cap(x.Subs)])
	for i := range x.Subs {
		x.Subs[i] = spared(x.Subs[i])
	}
	return x
}

func same(x, y api.Expr) bool {
	return x.Kind == y.Kind && x.Num == y.Num && x.Name == y.Name && x.Op == y.Op && x.At == y.At && slices.EqualFunc(x.Subs, y.Subs, same)
}

// spare is a list with elements behind its end, and all of what it holds.
func spare[E any](l []E, with E) ([]E, []E) {
	all := append(slices.Clone(l), with, with, with)
	return all[:len(l)], all
}

// P6.3: the arguments stay as they are, with what lies behind their lists, and what lies there does not count.
func TestEvalChangesNothing(t *testing.T) {
	r := rand.New(rand.NewSource(9))
	for range 1000 {
		tight, e := anyNode(r, 5), anyEnv(r)
		x, wide := roomy(tight), api.Env{}
		var names, active []string
		var nums []int
		wide.Names, names = spare(e.Names, "a")
		wide.Active, active = spare(e.Active, "b")
		wide.Nums, nums = spare(e.Nums, 4)
		kept, keptNames, keptActive, keptNums := spared(x), slices.Clone(names), slices.Clone(active), slices.Clone(nums)
		n, code := eval.Eval(tight, e)
		check(t, x, wide, n, code)
		variables, states := eval.Names(tight)
		checkNames(t, x, variables, states)
		if !same(spared(x), kept) || !slices.Equal(names, keptNames) || !slices.Equal(active, keptActive) || !slices.Equal(nums, keptNums) {
			t.Fatalf("the arguments change: %s, %s", shown(x), shown(wide))
		}
	}
}

// P6.3: each call of Names has lists of its own, which share no memory with each other.
func TestNamesAreFresh(t *testing.T) {
	x := read(t, "a + b * c - in(a) - in(b) - in(d)")
	kept := spared(x)
	first, second := eval.Names(x)
	for range 3 {
		variables, states := eval.Names(x)
		scribble(variables, "z")
		if !slices.Equal(states, []string{"a", "b", "d"}) {
			t.Fatalf("the states' names change with the variables': %q", states)
		}
		scribble(states, "z")
		if !same(spared(x), kept) || !slices.Equal(first, []string{"a", "b", "c"}) || !slices.Equal(second, []string{"a", "b", "d"}) {
			t.Fatal("an expression, or other names of it, change with its names")
		}
	}
	checkNames(t, x, first, second)
}

// P6.3: the names do not change with the expression, nor with the memory of its names.
func TestNamesDoNotKeepTree(t *testing.T) {
	bytes := []byte("abcd")
	name := unsafe.String(&bytes[1], 2)
	x := both(api.OpAdd, variable(name), in(name))
	variables, states := eval.Names(x)
	scribble(x.Subs, variable("z"))
	scribble(bytes, 'z')
	if !slices.Equal(variables, []string{"bc"}) || !slices.Equal(states, []string{"bc"}) {
		t.Errorf("names change with the memory of the expression: %q, %q", variables, states)
	}
}

// P6.3: nothing of an environment is kept for another call.
func TestEvalKeepsNothing(t *testing.T) {
	x := read(t, "a * 100 + in(s) * 10 + in(t)")
	e := api.Env{Names: []string{"a", "b"}, Nums: []int{1, 2}, Active: []string{"s"}}
	check(t, x, e, 110, api.OK)
	e.Nums[0], e.Active[0] = 3, "t"
	check(t, x, e, 301, api.OK)
	e.Names[0], e.Names[1] = "b", "a"
	check(t, x, e, 201, api.OK)
	e.Names[1] = "c"
	check(t, x, e, 0, api.ErrName)
}

// P6.3: calls at the same time do not touch each other.
func TestCallsAtOnce(t *testing.T) {
	x, y, e := read(t, "x * x - in(s1) + (in(s2) || y)"), read(t, "y || x / y"), document()
	var all sync.WaitGroup
	for range 8 {
		all.Go(func() {
			for range 300 {
				check(t, x, e, 48, api.OK)
				check(t, y, e, 0, api.ErrDiv)
				checkNames(t, x, []string{"x", "y"}, []string{"s1", "s2"})
			}
		})
	}
	all.Wait()
}
