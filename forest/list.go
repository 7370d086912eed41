package forest

import (
	"strings"

	"pavane/api"
)

// list is the nodes of a chart in document order.
type list []api.Spot

func (l list) has(n int) bool { return n >= 0 && n < len(l) }

func (l list) within(a, b int) bool {
	return l.has(a) && l.has(b) && a > b && a < l[b].End
}

// covers reports whether each of some nodes is m or nested in it.
func (l list) covers(m int, nodes ...int) bool {
	for _, n := range nodes {
		if n != m && !l.within(n, m) {
			return false
		}
	}
	return l.has(m)
}

// parent is the index of a node's parent, or -1. A parent precedes its nodes, so each way up has an end.
func (l list) parent(n int) int {
	if l.has(n) && l[n].Parent < n {
		return l[n].Parent
	}
	return -1
}

// open adds a node whose nested ones are still to come, and returns its index. The name is copied, as it may lie in memory of the caller's.
func (l *list) open(n api.Node, parent int) int {
	at, depth := len(*l), 0
	if parent >= 0 {
		depth = (*l)[parent].Depth + 1
	}
	*l = append(*l, api.Spot{Kind: n.Kind, Name: strings.Clone(n.Name), Parent: parent, Depth: depth})
	return at
}

// close tells a node that all that is nested in it has been added.
func (l list) close(at int) { l[at].End = len(l) }

// traversal goes through a tree and adds its nodes to the list that it embeds.
type traversal struct{ list }

func (t *traversal) visit(n api.Node, parent int) {
	at := t.open(n, parent)
	for _, kid := range n.Kids {
		t.visit(kid, at)
	}
	t.close(at)
}
