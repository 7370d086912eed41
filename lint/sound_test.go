package lint_test

import (
	"math/rand"
	"slices"
	"strings"
	"testing"

	"pavane/api"
	"pavane/lint"
	"pavane/printer"
	"pavane/syntax"
)

// P10.2: the fault of a source that does not parse is told first.
func TestSoundOfNoChart(t *testing.T) {
	for s, want := range map[string]api.Fault{
		"":                            {Code: api.ErrEnd, At: 0},
		"chart c {":                   {Code: api.ErrEnd, At: 9},
		"chart c { initial x; } x":    {Code: api.ErrForm, At: 23},
		"chart c { initial x; on -> ": {Code: api.ErrForm, At: 24},
		"chart c { initial x; $ }":    {Code: api.ErrForm, At: 21},
		"chart c { initial x; after 9223372036854775808; }":                 {Code: api.ErrNum, At: 27},
		"chart c { initial x; state " + strings.Repeat("a", 25) + " { } }":  {Code: api.ErrLong, At: 27},
		"chart c { initial x; always [" + strings.Repeat("(", 21) + "1]; }": {Code: api.ErrNest, At: 49},
	} {
		if c, f := lint.Sound(s); f != want || shown(c) != shown(api.Chart{}) {
			t.Errorf("Sound of %q: %s, %v; want nothing and %v", s, shown(c), f, want)
		}
	}
}

// P10.2: a source whose formatted lines are too long has the error of printer.Right, nowhere.
func TestSoundOfLongChart(t *testing.T) {
	for s, want := range map[string]api.Fault{
		"chart c{always->a" + strings.Repeat(",a", 6000) + ";}": {Code: api.ErrLong, At: -1},
		"chart c{always[1" + strings.Repeat("+1", 6000) + "];}": {Code: api.ErrTree, At: -1},
	} {
		if _, f := syntax.Parse(s); f != (api.Fault{}) {
			t.Errorf("%s does not parse: %v", short(s), f)
		}
		if c, f := lint.Sound(s); f != want || shown(c) != shown(api.Chart{}) {
			t.Errorf("Sound of %q: %s, %v; want nothing and %v", short(s), short(shown(c)), f, want)
		}
	}
}

// P10.2: a source whose formatted lines are just as long as a source is sound.
func TestSoundOfLongestChart(t *testing.T) {
	c := parsed(t, "chart c { var n = 1; }")
	s := source(t, c)
	for len(s) < api.MaxSource {
		m := api.Move{Kind: api.MoveAlways, Guarded: true, Guard: read("1" + strings.Repeat(" + 1", min(1000, (api.MaxSource-len(s))/4)))}
		c.Root.Moves = append(c.Root.Moves, m)
		long, code := printer.Print(c)
		if code != api.OK { // fill up with names
			c.Root.Moves = c.Root.Moves[:len(c.Root.Moves)-1]
			break
		}
		s = long
	}
	for len(s) < api.MaxSource {
		c.Root.Enter = append(c.Root.Enter, api.Action{Kind: api.ActRaise, Name: "a"})
		if long, code := printer.Print(c); code == api.OK {
			s = long
			continue
		}
		c.Root.Enter = c.Root.Enter[:len(c.Root.Enter)-1]
		c.Root.Enter[0].Name += strings.Repeat("a", api.MaxSource-len(s))
		s = source(t, c)
	}
	if len(s) != api.MaxSource {
		t.Fatalf("%d bytes", len(s))
	}
	checkSound(t, s)
}

// P10.2: of sources, Sound has the fault of Check, or the tree of the source.
func TestSoundOfSources(t *testing.T) {
	r := rand.New(rand.NewSource(53))
	faults := 0
	for i := range 1500 {
		c := anyChart(r, 1+i%30)
		for range i % 3 {
			spoil(r, &c)
		}
		s, code := printer.Print(c)
		if code != api.OK {
			continue
		}
		tree := parsed(t, s)
		want := reference(tree)
		if want.Code != api.OK {
			tree = api.Chart{}
			faults++
		}
		if got, f := lint.Sound(s); f != want || shown(got) != shown(tree) {
			t.Fatalf("Sound of %q: %s, %v; want %v", s, short(shown(got)), f, want)
		}
	}
	if faults < 300 {
		t.Errorf("%d faults", faults)
	}
}

// P10.2: the events of MoveOn and the names of ActRaise, wherever they stand.
func TestEventsExample(t *testing.T) {
	c := parsed(t, "chart c { var v = 1; initial i; enter { raise m; set v = 1; emit w = 1; } leave { raise a; raise m; } on z; always { raise B; }; after 1 { raise b; raise z; emit u = 2; } -> i; state i { leave { raise _x; } on c -> i; } parallel p { state q { enter { raise i; } } state r { on b1; } } history h -> q; }")
	want := []string{"B", "_x", "a", "b", "b1", "c", "i", "m", "z"}
	checkEvents(t, c, want)
	for _, s := range []string{"chart c { }", "chart c { var n = 1; always { set n = n; emit n = n; }; after 3; }"} {
		checkEvents(t, parsed(t, s), nil)
	}
}

func checkEvents(t *testing.T, c api.Chart, want []string) {
	t.Helper()
	if l := lint.Events(c); !slices.Equal(l, want) {
		t.Errorf("Events: %q; want %q", l, want)
	}
}

// P10.2: a chart need be no tree for that: any kind of node can have moves and acts, any name will do, and what is no MoveOn and no ActRaise does not count.
func TestEventsOfNoTree(t *testing.T) {
	checkEvents(t, api.Chart{}, nil)
	odd := api.Node{
		Kind:    77,
		Initial: "no",
		Enter:   []api.Action{{Kind: api.ActRaise, Name: "on"}, {Name: "no"}, {Kind: 4, Name: "no"}, {Kind: -1, Name: "no"}},
		Leave:   []api.Action{{Kind: api.ActRaise}, {Kind: api.ActRaise, Name: "\xff\x00", Value: api.Expr{Kind: api.ExprVar, Name: "no"}}},
		Moves: []api.Move{
			{Event: "no", Actions: []api.Action{{Kind: api.ActRaise, Name: "é"}}},
			{Kind: api.MoveOn, Event: "set x", Wait: 3, Targets: []string{"no"}},
			{Kind: api.MoveAlways, Event: "no"}, {Kind: api.MoveAfter, Event: "no"}, {Kind: 4, Event: "no"},
		},
	}
	checkEvents(t, api.Chart{Root: odd}, []string{"", "on", "set x", "é", "\xff\x00"})
	history := api.Node{Kind: api.NodeHistory, Moves: []api.Move{{Kind: api.MoveOn, Event: "zz"}}, Kids: []api.Node{odd, {Kind: api.NodeDeep, Enter: odd.Enter}}}
	checkEvents(t, api.Chart{Root: history}, []string{"", "on", "set x", "zz", "é", "\xff\x00"})
	deep := api.Node{Moves: []api.Move{{Kind: api.MoveOn, Event: "z"}}}
	for range 1<<16 - 1 {
		deep = api.Node{Kids: []api.Node{deep}}
	}
	checkEvents(t, api.Chart{Root: deep}, []string{"z"})
}

// P10.2: of charts of all sizes, each event once and in ascending order.
func TestEventsOfCharts(t *testing.T) {
	r := rand.New(rand.NewSource(54))
	for i := range 400 {
		c := anyChart(r, 1+i%40)
		for range i % 3 {
			spoil(r, &c)
		}
		p := partsOf(&c)
		var want []string
		for _, m := range p.moves {
			if m.Kind == api.MoveOn {
				want = append(want, m.Event)
			}
		}
		for _, a := range p.acts {
			if a.Kind == api.ActRaise {
				want = append(want, a.Name)
			}
		}
		slices.Sort(want)
		checkEvents(t, c, slices.Compact(want))
	}
}
