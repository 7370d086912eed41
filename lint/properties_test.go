package lint_test

import (
	"math/rand"
	"slices"
	"testing"

	"pavane/api"
	"pavane/eval"
	"pavane/forest"
	"pavane/lint"
)

// soundCharts are charts that Check finds nothing in, out of those that are sound and those that were changed.
func soundCharts(t *testing.T, seed int64, many int) []api.Chart {
	r := rand.New(rand.NewSource(seed))
	var l []api.Chart
	for i := 0; len(l) < many; i++ {
		c := anyChart(r, 1+i%45)
		for range i % 3 {
			spoil(r, &c)
		}
		if lint.Check(c) == (api.Fault{}) {
			l = append(l, c)
		}
	}
	return l
}

// P10.4: in a sound chart all names are declared.
func TestNamesAreDeclared(t *testing.T) {
	for _, c := range soundCharts(t, 55, 800) {
		p := partsOf(&c)
		vars, nodes, states := map[string]bool{}, map[string]bool{}, map[string]bool{}
		for _, v := range p.vars {
			vars[v.Name] = true
		}
		for _, n := range p.nodes {
			nodes[n.Name] = true
			states[n.Name] = n.Kind == api.NodeState || n.Kind == api.NodeParallel
		}
		declared := len(vars) == len(p.vars) && len(nodes) == len(p.nodes)
		for _, n := range p.nodes {
			declared = declared && (n.Initial == "" || nodes[n.Initial]) && (n.Default == "" || states[n.Default])
		}
		for _, m := range p.moves {
			for _, name := range m.Targets {
				declared = declared && nodes[name]
			}
		}
		for _, a := range p.acts {
			declared = declared && (a.Kind != api.ActSet || vars[a.Name])
		}
		for _, x := range p.exprs {
			variables, in := eval.Names(*x)
			for _, name := range variables {
				declared = declared && vars[name]
			}
			for _, name := range in {
				declared = declared && states[name]
			}
		}
		if !declared {
			t.Fatalf("sound: %s", source(t, c))
		}
	}
}

// P10.4: every compound state has a state or a history as Initial, and no other node has one.
func TestCompoundsHaveInitials(t *testing.T) {
	for _, c := range soundCharts(t, 56, 800) {
		l, _ := forest.Flat(c)
		for i, e := range entries(c.Root) {
			at := forest.Find(l, e.Initial)
			if e.isCompound() != (at >= 0 && l[at].Parent == i) || !e.isCompound() && e.Initial != "" {
				t.Fatalf("the Initial of %s is %q: %s", e.Name, e.Initial, source(t, c))
			}
		}
	}
}

// P10.4: a sound chart stays sound if it is formatted and parsed.
func TestSoundOfFormatted(t *testing.T) {
	for _, c := range soundCharts(t, 57, 500) {
		checkSound(t, source(t, c))
	}
}

// P10.5: a sound chart without some of its moves is sound.
func TestSoundWithoutMoves(t *testing.T) {
	r := rand.New(rand.NewSource(58))
	for _, c := range soundCharts(t, 59, 800) {
		for _, n := range partsOf(&c).nodes {
			n.Moves = slices.DeleteFunc(n.Moves, func(api.Move) bool { return r.Intn(3) == 0 })
		}
		if f := lint.Check(c); f != (api.Fault{}) {
			t.Fatalf("Check: %v, of %s", f, source(t, c))
		}
	}
}
