package forest_test

import (
	"slices"
	"strings"
	"sync"
	"testing"
	"unsafe"

	"pavane/api"
	"pavane/forest"
)

// spared is a list with something in its spare capacity.
func spared[E any](l []E, spare E) []E {
	return append(slices.Clone(l), spare, spare)[:len(l)]
}

// sparedNode is a node with spare capacity in each list of nodes.
func sparedNode(n api.Node) api.Node {
	n.Kids = spared(n.Kids, api.Node{Kind: 77, Name: "spare"})
	for i := range n.Kids {
		n.Kids[i] = sparedNode(n.Kids[i])
	}
	n.Moves = spared(n.Moves, api.Move{Event: "spare"})
	return n
}

// widened is a node whose lists are as long as their capacity.
func widened(n api.Node) api.Node {
	n.Kids = slices.Clone(n.Kids[:cap(n.Kids)])
	for i := range n.Kids {
		n.Kids[i] = widened(n.Kids[i])
	}
	n.Moves = n.Moves[:cap(n.Moves)]
	return n
}

// P9.3: Flat does not change a chart, nor the spare capacity of its lists; what lies there is no node.
func TestChartStays(t *testing.T) {
	c := parsed(t, exampleSource)
	want := flat(t, c)
	c.Root = sparedNode(c.Root)
	c.Vars = spared(c.Vars, api.Var{Name: "spare"})
	before := shown(widened(c.Root)) + shown(c.Vars[:cap(c.Vars)])
	if strings.Count(before, "spare") < 20 {
		t.Fatal("the lists have no spare capacity")
	}
	checkFlat(t, c, want)
	if shown(widened(c.Root))+shown(c.Vars[:cap(c.Vars)]) != before {
		t.Error("the chart was changed")
	}
	c.Root.Kids[1].Kids[1].Name = "set"
	before = shown(widened(c.Root))
	checkError(t, c, api.ErrTree)
	if shown(widened(c.Root)) != before {
		t.Error("the chart that is none was changed")
	}
}

// P9.3: the other calls do not change a list, nor the nodes of Meet.
func TestListStays(t *testing.T) {
	l := spared(flat(t, parsed(t, exampleSource)), api.Spot{Name: "spare", Parent: 1, End: 99})
	nodes := spared([]int{6, 2, 3, 2}, 77)
	before := shown(l[:cap(l)]) + shown(nodes[:cap(nodes)])
	if forest.Meet(l, nodes...) != 0 || forest.Find(l, "spare") != -1 || forest.Within(l, 7, 0) || len(forest.Kids(l, 1)) != 2 || len(forest.Up(l, 7)) != 0 || forest.Meet(l, 7) != -1 {
		t.Error("the spare capacity counts")
	}
	for n := range l {
		forest.Up(l, n)
		forest.Kids(l, n)
	}
	if shown(l[:cap(l)])+shown(nodes[:cap(nodes)]) != before {
		t.Error("the list or the nodes were changed")
	}
}

// P9.3: a list does not change with the memory of its chart, nor with that of its names.
func TestListIsFresh(t *testing.T) {
	c := parsed(t, exampleSource)
	bytes := []byte("name")
	c.Root.Kids[0].Name = unsafe.String(&bytes[0], len(bytes))
	l := flat(t, c)
	before := strings.Clone(shown(l))
	copy(bytes, "zzzz")
	c.Root.Kids[0].Kids[0] = state("other", state("kid"))
	c.Root.Kids[1].Name = "other"
	if shown(l) != before {
		t.Errorf("%v has changed; it was %s", l, before)
	}
}

// fill writes over a list and its spare capacity.
func fill[E any](l []E, e E) {
	l = l[:cap(l)]
	for i := range l {
		l[i] = e
	}
}

// P9.3: whoever writes over a result, changes no other one, and nothing that was handed in.
func TestResultsAreFresh(t *testing.T) {
	c := parsed(t, exampleSource)
	want := reference(t, c)
	fill(flat(t, c), api.Spot{Name: "zz", Parent: 77})
	l := flat(t, c)
	fill(flat(t, c), api.Spot{Name: "zz", Parent: 77})
	for n := range l {
		fill(forest.Up(l, n), 77)
		fill(forest.Kids(l, n), 77)
		up, kids := forest.Up(l, n), forest.Kids(l, n)
		fill(forest.Up(l, n), 77)
		fill(forest.Kids(l, n), 77)
		if !slices.Equal(up, referenceUp(want, n)) || !slices.Equal(kids, referenceKids(want, n)) {
			t.Errorf("Up and Kids of %d have changed: %v, %v", n, up, kids)
		}
	}
	if !slices.Equal(l, want) {
		t.Errorf("the list has changed: %v", l)
	}
	checkFlat(t, c, want)
}

// P9.3: calls at the same time do not touch each other's results.
func TestCallsAtOnce(t *testing.T) {
	c := parsed(t, exampleSource)
	l := flat(t, c)
	want := reference(t, c)
	var all sync.WaitGroup
	for range 8 {
		all.Go(func() {
			for range 200 {
				m, _ := forest.Flat(c)
				if !slices.Equal(m, want) || forest.Meet(l, 2, 5) != 0 || forest.Up(l, 6)[0] != 4 || forest.Kids(l, 1)[1] != 3 {
					t.Error("a call is disturbed by others")
				}
			}
		})
	}
	all.Wait()
}
