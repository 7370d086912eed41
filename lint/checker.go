package lint

import (
	"slices"

	"pavane/api"
	"pavane/forest"
)

// checker checks a chart that can be printed. It embeds the chart's nodes, the names that it declares, and what was found so far.
type checker struct {
	nodes
	names
	finding
}

// chart goes through all that can be wrong in the order of the chapter, as only the first finding is told.
func (k *checker) chart(vars ...api.Var) {
	for i, n := range k.list {
		k.require(k.places.add(n.Name, i), api.ErrDouble, n.At)
	}
	for i, v := range vars {
		k.require(k.variables.add(v.Name, i), api.ErrDouble, v.At)
	}
	for i, n := range k.list {
		k.initial(n)
		k.history(n, k.spots[i].Parent)
		k.acts(n.Enter)
		k.acts(n.Leave)
		for _, m := range n.Moves {
			k.move(m)
		}
	}
}

func (k *checker) initial(n api.Node) {
	if n.Kind == api.NodeState && regions(n) > 0 {
		k.require(hasKid(n, n.Initial), api.ErrInitial, n.At)
		return
	}
	k.require(n.Initial == "", api.ErrInitial, n.At)
	k.require(n.Kind != api.NodeParallel || regions(n) > 1, api.ErrInitial, n.At)
}

// history checks that a history leads to a state that is within its parent, and that no state has histories alone.
func (k *checker) history(n api.Node, parent int) {
	switch {
	case !isState(n):
		k.require(forest.Within(k.spots, k.state(n.Default), parent), api.ErrHistory, n.At)
	case n.Kind == api.NodeState && regions(n) == 0:
		k.require(len(n.Kids) == 0, api.ErrHistory, n.At)
	}
}

func (k *checker) acts(l []api.Action) {
	for _, a := range l {
		k.require(a.Kind != api.ActSet || k.variables.has(a.Name), api.ErrName, a.At)
		k.expression(a.Value)
	}
}

func (k *checker) expression(x api.Expr) {
	switch x.Kind {
	case api.ExprVar:
		k.require(k.variables.has(x.Name), api.ErrName, x.At)
	case api.ExprIn:
		k.require(k.state(x.Name) >= 0, api.ErrName, x.At)
	}
	for _, y := range x.Subs {
		k.expression(y)
	}
}

func (k *checker) move(m api.Move) {
	if m.Kind == api.MoveAfter {
		k.require(m.Wait > 0 && m.Wait <= api.MaxTick, api.ErrWait, m.At)
	}
	k.expression(m.Guard)
	k.acts(m.Actions)
	k.require(k.areTargets(m.Targets), api.ErrTarget, m.At)
}

// areTargets reports whether a move can lead to all of some nodes at once. No more than the nodes of a chart differ, so each list is soon at its end.
func (k *checker) areTargets(names []string) bool {
	var l []int
	for _, name := range names {
		a := k.target(name)
		if a < 0 || slices.ContainsFunc(l, func(b int) bool { return !k.areApart(a, b) }) {
			return false
		}
		l = append(l, a)
	}
	return true
}

// state is the index of the state that has a name, or -1.
func (k *checker) state(name string) int {
	if i, ok := k.places[name]; ok && isState(k.list[i]) {
		return i
	}
	return -1
}

// target is the index of the node that counts for a target: of a history, its parent. It is -1 for the root, and for what is no node.
func (k *checker) target(name string) int {
	i, ok := k.places[name]
	switch {
	case !ok || i == 0:
		return -1
	case !isState(k.list[i]):
		return k.spots[i].Parent
	}
	return i
}
