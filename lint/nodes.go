package lint

import (
	"slices"

	"pavane/api"
	"pavane/forest"
)

// nodes is the nodes of a chart in document order, and the spots that tell how they are nested.
type nodes struct {
	list  []api.Node
	spots []api.Spot
}

func (l *nodes) gather(n api.Node) {
	l.list = append(l.list, n)
	for _, kid := range n.Kids {
		l.gather(kid)
	}
}

// areApart reports whether two nodes lie in different regions of a parallel node.
func (l *nodes) areApart(a, b int) bool {
	m := forest.Meet(l.spots, a, b)
	return m != a && m != b && l.list[m].Kind == api.NodeParallel
}

func isState(n api.Node) bool {
	return n.Kind == api.NodeState || n.Kind == api.NodeParallel
}

// regions is how many of a node's kids are states.
func regions(n api.Node) int {
	many := 0
	for _, kid := range n.Kids {
		if isState(kid) {
			many++
		}
	}
	return many
}

func hasKid(n api.Node, name string) bool {
	return slices.ContainsFunc(n.Kids, func(kid api.Node) bool { return kid.Name == name })
}
