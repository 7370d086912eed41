package syntax_test

import (
	"math/rand"
	"slices"
	"strings"
	"testing"

	"pavane/api"
	"pavane/scan"
	"pavane/syntax"
)

// fullChart has each part of the grammar, with and without what may be missing.
const fullChart = "chart c { var n = -2; var m = 0; initial a; enter { set n = n + 1; raise e; emit f = in(a); } leave { } " +
	"on go [n < (0)] { set n = -n; raise x; } -> b, h, a; always; after 3 { } -> a; state a { initial a; leave { raise y; } enter { } after 0 [!n] ; history h -> a; } " +
	"parallel p { on e -> p; state q { } deep d -> q; state r { parallel s { } } } }"

// vocabulary has each keyword and each sign, names and integers, and tokens that are none.
func vocabulary() []string {
	l := append(scan.Words(), strings.Fields("{ } ( ) [ ] ; , -> = + - * / % < <= > >= == != && || !")...)
	return append(l, "a", "Chart", "_", "0", "7", "9223372036854775807", "$", "&", "01", "1a", "9223372036854775808", strings.Repeat("n", api.MaxName+1))
}

// pieces are the tokens of a source as texts.
func pieces(t *testing.T, s string) []string {
	t.Helper()
	l, f := scan.Tokens(s)
	if f != (api.Fault{}) {
		t.Fatalf("Tokens(%q): %v", short(s), f)
	}
	var texts []string
	for i := range len(l) - 1 {
		texts = append(texts, strings.TrimSpace(s[l[i].At:l[i+1].At]))
	}
	return texts
}

// checkReference holds the fault of a source against the reference, and reports whether there is one.
func checkReference(t *testing.T, s string) bool {
	t.Helper()
	want := referenceFault(s)
	if want.Code == api.OK {
		parsed(t, s)
		return false
	}
	checkFault(t, s, want)
	return true
}

// P7.1: the document's examples.
func TestFaultExamples(t *testing.T) {
	checkFault(t, "", api.Fault{Code: api.ErrEnd})
	checkFault(t, "chart c {", api.Fault{Code: api.ErrEnd, At: 9})
	checkFault(t, "chart c { } x", api.Fault{Code: api.ErrForm, At: 12})
	checkFault(t, "chart c { initial a; initial b; }", api.Fault{Code: api.ErrForm, At: 21})
	checkFault(t, "chart c { on go -> ; }", api.Fault{Code: api.ErrForm, At: 19})
}

// P7.1: the fault of a token comes ahead of everything else, wherever it stands.
func TestFaultOfTokens(t *testing.T) {
	checkAt(t, "@$", api.ErrForm)
	checkAt(t, "x x @$ x", api.ErrForm)
	checkAt(t, "chart chart { } @01", api.ErrForm)
	checkAt(t, "chart c { initial a; initial b; after @1a", api.ErrForm)
	checkAt(t, "} } @9223372036854775808 $", api.ErrNum)
	checkAt(t, "chart c { var n = -@9223372036854775808; }", api.ErrNum)
	checkAt(t, "state @"+strings.Repeat("n", api.MaxName+1), api.ErrLong)
	checkAt(t, "chart c { always ["+strings.Repeat("-", 21)+"a]; } x @& y", api.ErrForm)
	checkAt(t, "chart c {"+strings.Repeat("always;", 201)+"} @|", api.ErrForm)
	for _, s := range []string{strings.Repeat(" ", api.MaxSource+1), "chart c { }" + strings.Repeat("\n", api.MaxSource), strings.Repeat("$", 1<<20)} {
		checkFault(t, s, api.Fault{Code: api.ErrLong, At: -1})
	}
}

// P7.1: tokens that cannot occur, by hand.
func TestFaultOfForm(t *testing.T) {
	for _, s := range []string{
		"@c { }", "@state c { }", "@{ }", "@7", "chart @chart { }", "chart @{ }", "chart @7 { }", "chart @state { }", "chart c @; { }", "chart c @[ ]", "chart c @d { }",
		"chart c { } @}", "chart c { } @;", "chart c { } @chart d { }", "chart c { @; }", "chart c { @chart d { } }", "chart c { @{ } }", "chart c { @a }", "chart c { @set n = 1; }", "chart c { @-> a; }", "chart c { @7 }",
		"chart c { var @= 1; }", "chart c { var @var = 1; }", "chart c { var @1 = 1; }", "chart c { var n @; }", "chart c { var n @== 1; }", "chart c { var n = @; }", "chart c { var n = @n; }", "chart c { var n = @+1; }", "chart c { var n = -@-1; }", "chart c { var n = -@n; }", "chart c { var n = 1@, m = 2; }", "chart c { var n = 1 @+ 1; }", "chart c { var n = @(1); }", "chart c { var n = 1 @}",
		"chart c { initial a; @var n = 1; }", "chart c { always; @var n = 1; }", "chart c { enter { } @var n = 1; }", "chart c { state a { } @var n = 1; }", "chart c { state a { @var n = 1; } }",
		"chart c { initial @; }", "chart c { initial @state a { } }", "chart c { initial @7; }", "chart c { initial a@, b; }", "chart c { initial a @}", "chart c { initial a @{ } }",
		"chart c { enter @; }", "chart c { enter @set n = 1; }", "chart c { enter { } @; }", "chart c { enter { @; } }", "chart c { enter { @on x; } }", "chart c { enter { @{ } } }", "chart c { enter { @n = 1; } }", "chart c { leave @-> a; }", "chart c { leave { @leave { } } }", "chart c { leave { @state a { } } }", "chart c { enter { @var n = 1; } }",
		"chart c { on @; }", "chart c { on @on; }", "chart c { on @7; }", "chart c { on x@, y; }", "chart c { on x @}", "chart c { on x @on y; }", "chart c { always @x; }", "chart c { always @always; }", "chart c { after @; }", "chart c { after @n; }", "chart c { after @-1; }", "chart c { after @(1); }", "chart c { after 1 @2; }", "chart c { after 1 @+ 2; }",
		"chart c { always { } @{ } ; }", "chart c { always { } @[a]; }", "chart c { always [a] @[b]; }", "chart c { always -> a @[b]; }", "chart c { always -> a @{ } }", "chart c { always -> a @-> b; }", "chart c { always -> a @b; }", "chart c { always -> @, a; }", "chart c { always -> a, @; }", "chart c { always -> a, @, b; }", "chart c { always -> @7; }", "chart c { always -> @initial; }", "chart c { always @, a; }", "chart c { always @- > a; }", "chart c { always { } @}", "chart c { always -> a @}",
		"chart c { enter { set @= 1; } }", "chart c { enter { set @raise = 1; } }", "chart c { enter { set n @1; } }", "chart c { enter { set n @== 1; } }", "chart c { enter { set n = 1 @} }", "chart c { enter { set n = 1 @set m = 1; } }", "chart c { enter { raise @; } }", "chart c { enter { raise e @= 1; } }", "chart c { enter { raise e@, f; } }", "chart c { enter { raise @1; } }", "chart c { enter { emit e@; } }", "chart c { enter { emit @1; } }", "chart c { enter { emit e @-> 1; } }", "chart c { enter { emit e = 1@, 2; } }",
		"chart c { state @{ } }", "chart c { state @state { } }", "chart c { state a @; }", "chart c { state a @-> b; }", "chart c { parallel p @; }", "chart c { parallel @7 { } }", "chart c { history @-> a; }", "chart c { history h @{ } }", "chart c { history h @a; }", "chart c { history h -> @; }", "chart c { history h -> @deep; }", "chart c { history h -> a@, b; }", "chart c { history h -> a @{ } }", "chart c { deep h @; }", "chart c { deep @history h -> a; }", "chart c { deep d -> a @}",
	} {
		checkAt(t, s, api.ErrForm)
		checkReference(t, strings.Replace(s, "@", "", 1))
	}
}

// P7.1: a clause behind a node cannot occur, at any level.
func TestFaultOfClauseBehindNode(t *testing.T) {
	for _, node := range []string{"state a { }", "parallel a { always; }", "history a -> b;", "deep a -> b;", "state a { state b { } }"} {
		for _, clause := range []string{"initial a;", "enter { }", "leave { }", "on x;", "always;", "after 1;"} {
			checkAt(t, "chart c { "+node+" @"+clause+" }", api.ErrForm)
			checkAt(t, "chart c { state s { "+node+node+" @"+clause+" } }", api.ErrForm)
			parsed(t, "chart c { "+clause+node+" state s { "+clause+node+" } }")
		}
	}
}

// P7.1: a second clause of those that occur at most once, whatever is in the first one and between them.
func TestFaultOfSecondClause(t *testing.T) {
	single := map[string][]string{"initial": {"initial a;", "initial c;"}, "enter": {"enter { }", "enter { raise e; }"}, "leave": {"leave { }", "leave { set n = 1; }"}}
	for word, l := range single {
		for _, first := range l {
			for _, second := range append(l, word) {
				for _, between := range []string{"", "always;", "on x; after 1 { };"} {
					body := first + between + " @" + second
					checkAt(t, "chart c { "+body+" }", api.ErrForm)
					checkAt(t, "chart c { "+l[0]+" state a { "+body+" } }", api.ErrForm)
					checkAt(t, "chart c { "+l[0]+" state a { "+l[1]+" } parallel b { deep d -> e; } state f { "+body, api.ErrForm)
				}
			}
			for other, m := range single {
				if other != word {
					checkAt(t, "chart c { "+first+m[0]+" @"+first+" }", api.ErrForm)
					checkAt(t, "chart c { "+m[0]+first+" @"+m[1]+" }", api.ErrForm)
				}
			}
		}
	}
}

// P7.1: the faults of expressions stand where expr.Parse has them.
func TestFaultOfExpressions(t *testing.T) {
	for front, back := range map[string]string{"chart c { enter { set n = ": "; } }", "chart c { leave { raise e; emit n =": "; } }", "chart c { on go [": "] -> a; }", "chart c { state a { after 2 { set x = ": "; }; } }", "chart c { always[": "]{}; }"} {
		for _, x := range []string{"@", "a + @", "a @b", "a @= 1", "@state", "@+ 1", "(a@", "(a + b) * (@)", "in(@1)", "in @x", "@{ }", "1 @2", "a @-> b", "a@, b", "a @! b", "-@", "a@[b]"} {
			checkAt(t, front+x+back, api.ErrForm)
		}
		for _, x := range []string{strings.Repeat("-", 20) + "@-a", strings.Repeat("(", 20) + "@(", "a + (" + strings.Repeat("!", 19) + "@(b", strings.Repeat("-!(", 6) + "-!" + "@-"} {
			checkAt(t, front+x+back, api.ErrNest)
			checkAt(t, front+x+" state", api.ErrNest)
			checkAt(t, front+x, api.ErrNest)
		}
		for _, x := range []string{"@", "a +@", "(a @", "a // b@", "in(@", strings.Repeat("-", 20) + "@", "-(a * (b)@"} {
			checkAt(t, front+x, api.ErrEnd)
		}
	}
}

// P7.1: a source that ends early, after each of its tokens.
func TestFaultOfEnd(t *testing.T) {
	l := pieces(t, fullChart)
	for n := range l {
		for _, space := range []string{" ", "\n", "\t//\n"} {
			s := strings.Join(l[:n], space)
			checkFault(t, s, api.Fault{Code: api.ErrEnd, At: len(s)})
			s += " // }"
			checkFault(t, s, api.Fault{Code: api.ErrEnd, At: len(s)})
		}
	}
	parsed(t, strings.Join(l, " "))
	parsed(t, strings.Join(l, "\n"))
}

// P7.1: the whole chart with one token left out, twice there, or another one in its place or ahead of it, against the reference.
func TestFaultOfEachToken(t *testing.T) {
	l := pieces(t, fullChart)
	faults := 0
	for n := range l {
		for _, with := range append(vocabulary(), "", l[n]+" "+l[n]) {
			changed := slices.Clone(l)
			changed[n] = with
			if checkReference(t, strings.Join(changed, " ")) {
				faults++
			}
			changed[n] = with + " " + l[n]
			if checkReference(t, strings.Join(changed, "\n")) {
				faults++
			}
		}
	}
	if faults < 10000 {
		t.Errorf("only %d faults", faults)
	}
}

// P7.1: random charts with some tokens changed, against the reference.
func TestFaultOfRandomCharts(t *testing.T) {
	r := rand.New(rand.NewSource(8))
	words := vocabulary()
	codes := map[api.Errno]int{}
	for range 3000 {
		w := writer{Rand: r, spaces: []string{" ", "\n"}, blocks: true}
		w.chart(anyChart(r, r.Intn(4)))
		if w.Len() > api.MaxSource {
			continue
		}
		l := pieces(t, w.String())
		for range 1 + r.Intn(2) {
			switch n := r.Intn(len(l)); r.Intn(6) {
			case 0:
				l = append(l[:n:n], l[n+1:]...)
			case 1:
				l[n] = words[r.Intn(len(words))]
			case 2:
				l = slices.Insert(l, n, words[r.Intn(len(words)-6)])
			case 3:
				m := r.Intn(len(l))
				l[n], l[m] = l[m], l[n]
			case 4:
				l = slices.Insert(l, n, l[r.Intn(len(l))])
			case 5:
				l = l[:n]
			}
			if len(l) == 0 {
				break
			}
		}
		s := strings.Join(l, " ")
		checkReference(t, s)
		_, f := syntax.Parse(s)
		codes[f.Code]++
		if t.Failed() {
			return
		}
	}
	if codes[api.OK] < 50 || codes[api.ErrForm] < 1500 || codes[api.ErrEnd] < 100 {
		t.Errorf("so many of each code: %v", codes)
	}
}

// W1: rows of any tokens at all have a result.
func TestFaultOfAnyTokens(t *testing.T) {
	r := rand.New(rand.NewSource(9))
	words := vocabulary()
	words = words[:len(words)-6]
	full := pieces(t, fullChart)
	for range 6000 {
		l := slices.Clone(full[:r.Intn(len(full))])
		for range 1 + r.Intn(8) {
			l = append(l, words[r.Intn(len(words))])
		}
		checkReference(t, strings.Join(l, " "))
		if t.Failed() {
			return
		}
	}
	for range 2000 {
		b := make([]byte, r.Intn(200))
		for i := range b {
			b[i] = " {}[]();,->=+!achrt012\n\xff"[r.Intn(24)]
		}
		checkReference(t, string(b))
	}
}
