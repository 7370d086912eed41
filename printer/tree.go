package printer

import (
	"slices"

	"pavane/api"
	"pavane/expr"
	"pavane/scan"
)

// checker checks whether a chart is one that a source can have. It counts what is limited in the whole of it, and goes no further down than the limits; level is how many nodes are around the place.
type checker struct {
	nodes, moves, acts int
	level              int
}

// isTree reports whether syntax.Parse could return a chart, whatever its offsets are.
func isTree(c api.Chart) bool {
	return len(c.Vars) <= api.MaxVars && every(c.Vars, isVariable) &&
		c.Root.Kind == api.NodeState && new(checker).node(c.Root)
}

func isVariable(v api.Var) bool {
	return scan.Name(v.Name) && v.Num != api.MinInt
}

func (k *checker) node(n api.Node) bool {
	if !count(&k.nodes, 1, api.MaxNodes) || k.level >= api.MaxDeep || !scan.Name(n.Name) {
		return false
	}
	switch n.Kind {
	case api.NodeState, api.NodeParallel:
		return n.Default == "" && k.body(n)
	case api.NodeHistory, api.NodeDeep:
		return scan.Name(n.Default) && isBodiless(n)
	}
	return false
}

func (k *checker) body(n api.Node) bool {
	k.level++
	right := (n.Initial == "" || scan.Name(n.Initial)) &&
		k.block(n.Enter) && k.block(n.Leave) &&
		count(&k.moves, len(n.Moves), api.MaxMoves) && every(n.Moves, k.move) &&
		every(n.Kids, k.node)
	k.level--
	return right
}

func (k *checker) move(m api.Move) bool {
	return isTriggered(m) && isGuarded(m) && k.block(m.Actions) && every(m.Targets, scan.Name)
}

func (k *checker) block(l []api.Action) bool {
	return count(&k.acts, len(l), api.MaxActs) && every(l, isAct)
}

// count counts more of what a tree has no more of than most, and reports whether that holds.
func count(many *int, more, most int) bool {
	*many += more
	return *many <= most
}

// isBodiless reports whether there is nothing in a node that only a body has.
func isBodiless(n api.Node) bool {
	return n.Initial == "" && len(n.Enter) == 0 && len(n.Leave) == 0 && len(n.Moves) == 0 && len(n.Kids) == 0
}

// isTriggered reports whether a move has what its kind asks for, and no more.
func isTriggered(m api.Move) bool {
	switch m.Kind {
	case api.MoveOn:
		return scan.Name(m.Event) && m.Wait == 0
	case api.MoveAlways:
		return m.Event == "" && m.Wait == 0
	case api.MoveAfter:
		return m.Event == "" && m.Wait >= 0
	}
	return false
}

func isGuarded(m api.Move) bool {
	if m.Guarded {
		return expr.Right(m.Guard)
	}
	return isNothing(m.Guard)
}

func isAct(a api.Action) bool {
	switch a.Kind {
	case api.ActSet, api.ActEmit:
		return scan.Name(a.Name) && expr.Right(a.Value)
	case api.ActRaise:
		return scan.Name(a.Name) && isNothing(a.Value)
	}
	return false
}

// isNothing reports whether there is no expression; an offset does not make one.
func isNothing(x api.Expr) bool {
	return x.Kind == 0 && x.Num == 0 && x.Name == "" && x.Op == 0 && len(x.Subs) == 0
}

// every reports whether something holds of each of a list.
func every[E any](l []E, holds func(E) bool) bool {
	return !slices.ContainsFunc(l, func(e E) bool { return !holds(e) })
}
