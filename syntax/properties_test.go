package syntax_test

import (
	"math/rand"
	"slices"
	"strings"
	"testing"

	"pavane/api"
	"pavane/syntax"
)

// respaced is a source with other white space between its tokens, of which some may have none.
func respaced(r *rand.Rand, t *testing.T, s string, spaces ...string) string {
	w := writer{Rand: r, spaces: spaces}
	w.put(pieces(t, s)...)
	return w.String()
}

// P7.3: white space and comments affect nothing but offsets.
func TestWhiteSpace(t *testing.T) {
	r := rand.New(rand.NewSource(11))
	for range 400 {
		w := writer{Rand: r, spaces: []string{" "}, blocks: true}
		w.chart(anyChart(r, r.Intn(4)))
		s := w.String()
		if len(s) > api.MaxSource/2 {
			continue
		}
		want := shown(placeless(parsed(t, s)))
		for _, spaces := range [][]string{{" "}, {"\n"}, {"\r\n", "\t"}, {"//\n"}, {"// chart d { } $ 01\n", "\n// }\n"}} {
			u := respaced(r, t, s, spaces...)
			if len(u) > api.MaxSource {
				continue
			}
			if got := shown(placeless(parsed(t, u))); got != want {
				t.Fatalf("%q is %s; want %s as of %q", short(u), short(got), short(want), short(s))
			}
		}
	}
}

// P7.3: so it is with faults: the same one, at the same token.
func TestWhiteSpaceInFaults(t *testing.T) {
	r := rand.New(rand.NewSource(12))
	words := vocabulary()
	words = words[:len(words)-6]
	l := pieces(t, fullChart)
	for range 3000 {
		changed := slices.Clone(l)
		changed[r.Intn(len(l))] = words[r.Intn(len(words))]
		s := strings.Join(changed, " ") + " "
		wide := strings.ReplaceAll(s, " ", " //a\n ")
		_, f := syntax.Parse(s)
		_, g := syntax.Parse(wide)
		if f.Code != g.Code || 2*len(strings.Fields(s[:f.At])) != len(strings.Fields(wide[:g.At])) {
			t.Fatalf("%q has the fault %v, with comments %v", s, f, g)
		}
	}
}

// P7.3: an empty block is no block, in each place where one may stand, but for the keyword of a second one.
func TestEmptyBlocks(t *testing.T) {
	for with, without := range map[string]string{
		"chart c { enter { } }":                              "chart c { }",
		"chart c { leave {} on x { } ; }":                    "chart c { on x; }",
		"chart c { enter{//\n} always [a] { } -> b; }":       "chart c { always [a] -> b; }",
		"chart c { after 1 { } -> b, c; leave { } }":         "chart c { after 1 -> b, c; }",
		"chart c { state s { enter { } leave { } always; }}": "chart c { state s { always; } }",
		"chart c { enter { } leave { raise e; } }":           "chart c { leave { raise e; } }",
	} {
		if x, y := placeless(parsed(t, with)), placeless(parsed(t, without)); shown(x) != shown(y) {
			t.Errorf("%q is %s, and %q is %s", with, shown(x), without, shown(y))
		}
	}
	checkAt(t, "chart c { enter { } @enter { raise e; } }", api.ErrForm)
	checkAt(t, "chart c { on x { } @{ raise e; }; }", api.ErrForm)
}

// P7.3: a tree that is written and parsed is the same but for its offsets, with and without empty blocks.
func TestWrittenAgain(t *testing.T) {
	r := rand.New(rand.NewSource(13))
	for range 600 {
		first, c := written(r, anyChart(r, r.Intn(4)))
		second, d := written(r, c)
		if len(first) > api.MaxSource || len(second) > api.MaxSource {
			continue
		}
		checkTree(t, second, d)
		if x, y := placeless(parsed(t, first)), placeless(parsed(t, second)); shown(x) != shown(y) {
			t.Fatalf("%q and %q are not the same", short(first), short(second))
		}
	}
}

// W2: the same source has the same tree, and the same fault, whatever was parsed before.
func TestParseAgain(t *testing.T) {
	r := rand.New(rand.NewSource(14))
	for range 300 {
		w := writer{Rand: r, spaces: someSpaces}
		w.chart(anyChart(r, 2))
		s := w.String()
		if r.Intn(2) == 0 {
			s = s[:r.Intn(len(s))]
		}
		c, f := syntax.Parse(s)
		syntax.Parse(bulk(r))
		if d, g := syntax.Parse(s); f != g || shown(c) != shown(d) {
			t.Fatalf("Parse(%q): %v, and then %v", short(s), f, g)
		}
	}
}
