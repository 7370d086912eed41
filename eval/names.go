package eval

import (
	"maps"
	"slices"
	"strings"

	"pavane/api"
)

// names is a set of names.
type names map[string]struct{}

func (s names) add(name string) { s[name] = struct{}{} }

// list is the set in ascending order. The names are copied, as they may lie in memory of the caller's.
func (s names) list() []string {
	l := slices.Sorted(maps.Keys(s))
	for i, name := range l {
		l[i] = strings.Clone(name)
	}
	return l
}

// usage is what an expression asks its environment for.
type usage struct{ variables, states names }

// collect adds the names of all nodes, also of those that no evaluation gets to.
func (u usage) collect(x api.Expr) {
	switch x.Kind {
	case api.ExprVar:
		u.variables.add(x.Name)
	case api.ExprIn:
		u.states.add(x.Name)
	}
	for _, y := range x.Subs {
		u.collect(y)
	}
}
