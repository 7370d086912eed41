package lint

import (
	"maps"
	"slices"
	"strings"

	"pavane/api"
)

// events is a set of events.
type events map[string]struct{}

func (e events) add(name string) { e[name] = struct{}{} }

// node adds what a node and the nodes within it name, whatever kind they are of.
func (e events) node(n api.Node) {
	e.acts(n.Enter)
	e.acts(n.Leave)
	for _, m := range n.Moves {
		if m.Kind == api.MoveOn {
			e.add(m.Event)
		}
		e.acts(m.Actions)
	}
	for _, kid := range n.Kids {
		e.node(kid)
	}
}

func (e events) acts(l []api.Action) {
	for _, a := range l {
		if a.Kind == api.ActRaise {
			e.add(a.Name)
		}
	}
}

// list is the set in ascending order. The names are copied, as they may lie in memory of the caller's.
func (e events) list() []string {
	l := slices.Sorted(maps.Keys(e))
	for i, name := range l {
		l[i] = strings.Clone(name)
	}
	return l
}
