package syntax_test

import (
	"math/rand"
	"strconv"
	"strings"
	"testing"

	"pavane/api"
)

// vars declares so many variables.
func vars(n int) string {
	var b strings.Builder
	for i := range n {
		b.WriteString("var v" + strconv.Itoa(i) + " = " + strconv.Itoa(i) + "; ")
	}
	return b.String()
}

// nodes are so many in a row, of all kinds.
func nodes(n int) string {
	var b strings.Builder
	for i := range n {
		b.WriteString([]string{"state s { } ", "parallel p { } ", "history h -> s; ", "deep d -> s; "}[i%4])
	}
	return b.String()
}

// moves are so many in a row, of all kinds.
func moves(n int) string {
	var b strings.Builder
	for i := range n {
		b.WriteString([]string{"on e; ", "always; ", "after 1; "}[i%3])
	}
	return b.String()
}

// acts are so many in a row, of all kinds.
func acts(n int) string {
	var b strings.Builder
	for i := range n {
		b.WriteString([]string{"set n = 1; ", "raise e; ", "emit m = 2; "}[i%3])
	}
	return b.String()
}

// chain opens so many nodes within each other, and closes them behind what is in the innermost one.
func chain(levels int, inner string) string {
	front := ""
	for i := range levels {
		front += []string{"state s { ", "parallel p { "}[i%2]
	}
	return front + inner + strings.Repeat(" }", levels)
}

// P7.1: as many variables as may be, and one more.
func TestLimitOfVars(t *testing.T) {
	for n := range api.MaxVars + 1 {
		c := parsed(t, "chart c { "+vars(n)+"}")
		if len(c.Vars) != n || n > 0 && c.Vars[n-1].Num != n-1 {
			t.Errorf("%d variables: %v", n, c.Vars)
		}
	}
	for _, rest := range []string{"v = 1; }", "v0 = 1; }", "v;", "v", "v = 1; " + vars(5) + "}", "v 1 } }"} {
		checkAt(t, "chart c { "+vars(16)+"var @"+rest, api.ErrLong)
	}
	for _, rest := range []string{"= 1; }", "7 = 1; }", "var n = 1; }", "; }", "in = 1;"} {
		checkAt(t, "chart c { "+vars(16)+"var @"+rest, api.ErrForm)
	}
	checkAt(t, "chart c { "+vars(16)+"var@", api.ErrEnd)
	checkAt(t, "chart c { "+vars(16)+"always; @var n = 1; }", api.ErrForm)
	checkAt(t, "chart c { "+vars(15)+"var n = @n; "+vars(3)+"}", api.ErrForm)
	checkAt(t, "chart c { "+vars(16)+"var @n = n; state; }", api.ErrLong)
}

// P7.1: as many nodes as may be, the root included, and one more, of each kind.
func TestLimitOfNodes(t *testing.T) {
	for _, n := range []int{0, 1, 5, 62, 63} {
		if c := parsed(t, "chart c { "+nodes(n)+"}"); len(c.Root.Kids) != n {
			t.Errorf("%d nodes: %d", n, len(c.Root.Kids))
		}
	}
	for _, node := range []string{"state @s { }", "parallel @s { }", "history @s -> s;", "deep @s -> s;", "state @s", "deep @s;", "parallel @s = 1"} {
		checkAt(t, "chart c { "+nodes(63)+node+" }", api.ErrLong)
		checkAt(t, "chart c { "+nodes(63)+node, api.ErrLong)
		checkAt(t, "chart c { "+nodes(20)+"state s { "+nodes(20)+"} parallel p { "+nodes(5)+"parallel q { "+nodes(15)+"} } "+node+" }", api.ErrLong)
		checkAt(t, "chart c { "+nodes(20)+"state s { "+nodes(20)+"} parallel p { "+nodes(5)+"parallel q { "+nodes(15)+node+"} } }", api.ErrLong)
	}
	parsed(t, "chart c { "+nodes(20)+"state s { "+nodes(20)+"} parallel p { "+nodes(5)+"parallel q { "+nodes(15)+"} } }")
	for _, node := range []string{"state @{ }", "parallel @parallel { }", "history @-> s;", "deep @7;"} {
		checkAt(t, "chart c { "+nodes(63)+node+" }", api.ErrForm)
	}
	checkAt(t, "chart c { "+nodes(63)+"state@", api.ErrEnd)
	checkAt(t, "chart c { "+nodes(63)+"@s { }", api.ErrForm)
	checkAt(t, "chart c { "+nodes(62)+"state s { @; } state s { } }", api.ErrForm)
}

// P7.1: as many moves as may be, wherever they are, and one more, of each kind.
func TestLimitOfMoves(t *testing.T) {
	for _, n := range []int{0, 1, 5, 199, 200} {
		if c := parsed(t, "chart c { "+moves(n)+"}"); len(c.Root.Moves) != n {
			t.Errorf("%d moves: %d", n, len(c.Root.Moves))
		}
	}
	for _, move := range []string{"@on e;", "@always;", "@after 1;", "@on;", "@after;", "@always", "@on 7", "@always [["} {
		checkAt(t, "chart c { "+moves(200)+move+" }", api.ErrLong)
		checkAt(t, "chart c { "+moves(200)+move, api.ErrLong)
		checkAt(t, "chart c { "+moves(200)+"state s { "+move+" } }", api.ErrLong)
		checkAt(t, "chart c { "+moves(3)+"initial s; "+moves(47)+"parallel p { "+moves(50)+"enter { } leave { } } state s { "+moves(60)+"state q { "+moves(40)+"initial r; "+move+" } } }", api.ErrLong)
		checkAt(t, "chart c { "+moves(200)+"state s { } @"+move[1:]+" }", api.ErrForm)
		checkAt(t, "chart c { "+moves(200)+"enter { @"+move[1:]+" } }", api.ErrForm)
	}
	parsed(t, "chart c { "+moves(3)+"initial s; "+moves(47)+"parallel p { "+moves(50)+"enter { } leave { } } state s { "+moves(60)+"state q { "+moves(40)+"initial r; } } }")
	checkAt(t, "chart c { "+moves(199)+"on @; on e; }", api.ErrForm)
	checkAt(t, "chart c { "+moves(199)+"on e @on e; }", api.ErrForm)
	checkAt(t, "chart c { "+moves(200)+"@; on e; }", api.ErrForm)
}

// P7.1: as many acts as may be, wherever they are, and one more, of each kind.
func TestLimitOfActs(t *testing.T) {
	for _, n := range []int{0, 1, 5, 399, 400} {
		c := parsed(t, "chart c { enter { "+acts(n)+"} leave { "+acts(400-n)+"} }")
		if len(c.Root.Enter) != n || len(c.Root.Leave) != 400-n {
			t.Errorf("%d acts: %d and %d", n, len(c.Root.Enter), len(c.Root.Leave))
		}
		if c = parsed(t, "chart c { always { "+acts(n)+"}; }"); len(c.Root.Moves[0].Actions) != n {
			t.Errorf("%d acts: %d", n, len(c.Root.Moves[0].Actions))
		}
	}
	for _, act := range []string{"@set n = 1;", "@raise e;", "@emit n = 1;", "@set", "@raise;", "@emit 7", "@set n = ((", "@raise e = 1;"} {
		checkAt(t, "chart c { enter { "+acts(400)+act+" } }", api.ErrLong)
		checkAt(t, "chart c { leave { "+acts(400)+"} state s { enter { "+act, api.ErrLong)
		checkAt(t, "chart c { leave { "+acts(100)+"} on e { "+acts(100)+"}; after 1 [n] { "+acts(50)+"} -> p; enter { "+acts(50)+"} parallel p { always { "+acts(99)+"}; leave { raise e; "+act+" } } }", api.ErrLong)
		checkAt(t, "chart c { always { "+acts(400)+"}; on e { "+act+" } }", api.ErrLong)
		checkAt(t, "chart c { enter { "+acts(400)+"} @"+act[1:]+" }", api.ErrForm)
	}
	checkAt(t, "chart c { enter { "+acts(399)+"raise @; raise e; } }", api.ErrForm)
	checkAt(t, "chart c { enter { "+acts(399)+"set n = (1 @; raise e; } }", api.ErrForm)
	checkAt(t, "chart c { enter { "+acts(399)+"set n = "+strings.Repeat("!", 20)+"@!a; raise e; } }", api.ErrNest)
	checkAt(t, "chart c { enter { "+acts(400)+"@; raise e; } }", api.ErrForm)
}

// P7.1: nodes in as many others as may be, the root included, and in one more, of each kind.
func TestLimitOfNesting(t *testing.T) {
	for _, node := range []string{"state @s { }", "parallel @s { }", "history @s -> s;", "deep @s -> s;"} {
		for levels := range 11 {
			s := "chart c { " + chain(levels, strings.Replace(node, "@", "", 1)+nodes(4)) + " }"
			n := parsed(t, s).Root
			for range levels {
				n = n.Kids[0]
			}
			if len(n.Kids) != 5 || n.Kids[0].Name != "s" {
				t.Errorf("in %d nodes: %s", levels+1, short(shown(n)))
			}
		}
		checkAt(t, "chart c { "+chain(11, node)+" }", api.ErrNest)
		checkAt(t, "chart c { "+chain(11, "always; enter { } "+node), api.ErrNest)
		checkAt(t, "chart c { "+chain(10, nodes(9)+chain(1, node))+" }", api.ErrNest)
		checkAt(t, "chart c { "+chain(10, nodes(9)+chain(1, "")+chain(1, ""))+chain(11, node)+" }", api.ErrNest)
	}
	for _, rest := range []string{"s", "s;", "s = 1", "s { state", "s { state 7 { } }", "s { " + chain(8, "") + " }"} {
		checkAt(t, "chart c { "+chain(11, "state @"+rest), api.ErrNest)
	}
	for _, rest := range []string{"{ }", "7 { }", "state s { }", "-> s;"} {
		checkAt(t, "chart c { "+chain(11, "parallel @"+rest)+" }", api.ErrForm)
	}
	checkAt(t, strings.TrimRight("chart c { "+chain(11, "deep@"), " }"), api.ErrEnd)
}

// P7.1: a level ends with its node.
func TestLimitOfNestingEnds(t *testing.T) {
	parsed(t, "chart c { "+chain(11, "")+chain(11, "always;")+" deep d -> e; "+chain(11, "enter { }")+" }")
	parsed(t, "chart c { "+chain(5, chain(6, "")+chain(6, "")+chain(3, nodes(3))+chain(6, ""))+" }")
	checkAt(t, "chart c { "+chain(11, "")+chain(11, "deep @d -> e;")+" }", api.ErrNest)
}

// P7.1: too many nodes come ahead of too many within each other.
func TestLimitOfNodesAndNesting(t *testing.T) {
	for _, node := range []string{"state @s { }", "deep @s -> s;", "parallel @s"} {
		checkAt(t, "chart c { "+nodes(51)+chain(11, node)+" }", api.ErrNest)
		checkAt(t, "chart c { "+nodes(52)+chain(11, node)+" }", api.ErrLong)
		checkAt(t, "chart c { "+nodes(53)+chain(10, node)+" }", api.ErrLong)
	}
	checkAt(t, "chart c { "+nodes(52)+chain(11, "state @{ }")+" }", api.ErrForm)
}

// P7.1: everything that is limited at once, up to its limit; what is beyond it is found from left to right.
func TestLimitsAtOnce(t *testing.T) {
	s := "chart c { " + vars(16) + "enter { " + acts(100) + "} leave { " + acts(100) + "} " + moves(99) + "always { " + acts(199) + "}; " + nodes(52) + chain(10, moves(99)+"on e [in(s)] { raise e; } -> s; state s { }") + " }"
	c := parsed(t, s)
	if len(c.Vars) != 16 || len(c.Root.Kids) != 53 || len(c.Root.Moves) != 100 || len(c.Root.Enter) != 100 {
		t.Errorf("Parse: %s", short(shown(c)))
	}
	many := "enter { " + acts(401) + "}"
	checkAt(t, "chart c { "+vars(16)+"var @n = 1; "+many+moves(201)+nodes(64)+"}", api.ErrLong)
	checkAt(t, "chart c { "+vars(16)+"enter { "+acts(400)+"@raise e; } "+moves(201)+nodes(64)+"}", api.ErrLong)
	checkAt(t, "chart c { "+vars(16)+moves(200)+"@on e; "+many+nodes(64)+"}", api.ErrLong)
	checkAt(t, "chart c { "+moves(200)+nodes(63)+"state @s { "+many+moves(1)+"} }", api.ErrLong)
}

// bulk writes a chart with numbers of everything that is limited that lie around the limits.
func bulk(r *rand.Rand) string {
	around := func(limit int) int {
		return []int{0, 1, limit / 2, limit - 1, limit, limit + 1}[r.Intn(6)]
	}
	s := "chart c { " + vars(around(16))
	n := r.Intn(2) * around(400) / 2
	s += "enter { " + acts(n) + "} " + moves(r.Intn(2)*around(200)) + "always { " + acts(r.Intn(2)*around(400)) + "}; "
	s += nodes(r.Intn(2) * around(52))
	for range r.Intn(3) {
		s += chain(r.Intn(13), moves(around(100))+"leave { "+acts(around(200))+"}"+nodes(around(11)))
	}
	return s + " }"
}

// P7.1: random charts around the limits, against the reference.
func TestLimitsAgainstReference(t *testing.T) {
	r := rand.New(rand.NewSource(10))
	right, wrong := 0, 0
	for range 400 {
		if s := bulk(r); len(s) > api.MaxSource {
			continue
		} else if checkReference(t, s) {
			wrong++
		} else {
			right++
		}
	}
	if right < 25 || wrong < 100 {
		t.Errorf("%d right, %d wrong", right, wrong)
	}
}
