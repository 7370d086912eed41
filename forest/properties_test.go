package forest_test

import (
	"math/rand"
	"slices"
	"testing"

	"pavane/forest"
)

// P9.4: no node is nested in itself, nor two in each other; what is nested in what is nested in a third one is nested there.
func TestNestingIsAnOrder(t *testing.T) {
	for _, l := range someLists(t, 64) {
		for a := range l {
			if forest.Within(l, a, a) {
				t.Fatalf("%d is nested in itself in %v", a, l)
			}
			for b := range l {
				if !forest.Within(l, a, b) {
					continue
				}
				if forest.Within(l, b, a) {
					t.Fatalf("%d and %d are nested in each other in %v", a, b, l)
				}
				for c := range l {
					if forest.Within(l, b, c) && !forest.Within(l, a, c) {
						t.Fatalf("%d is nested in %d, and that in %d in %v", a, b, c, l)
					}
				}
			}
		}
	}
}

// P9.4: a is nested in b exactly if b is an element of Up(a).
func TestWithinIsUp(t *testing.T) {
	for _, l := range someLists(t, 130) {
		for _, a := range numbers(l) {
			up := forest.Up(l, a)
			for _, b := range numbers(l) {
				if slices.Contains(up, b) != forest.Within(l, a, b) {
					t.Fatalf("Up %d is %v in %v", a, up, l)
				}
			}
		}
	}
}

// P9.5: neither the order of the nodes nor repetitions matter.
func TestMeetOfShuffled(t *testing.T) {
	r := rand.New(rand.NewSource(44))
	for _, l := range someLists(t, 200) {
		for range 30 {
			nodes := make([]int, 1+r.Intn(5))
			for i := range nodes {
				nodes[i] = r.Intn(len(l)+2) - 1
			}
			want := forest.Meet(l, nodes...)
			other := append(slices.Clone(nodes), nodes[r.Intn(len(nodes))], nodes[r.Intn(len(nodes))])
			r.Shuffle(len(other), func(i, j int) { other[i], other[j] = other[j], other[i] })
			if m := forest.Meet(l, other...); m != want {
				t.Fatalf("Meet of %v: %d, and %v: %d, of %v", nodes, want, other, m, l)
			}
		}
	}
}

// P9.5: the meeting point of some nodes and one more is that of their meeting point and the additional node.
func TestMeetOfOneMore(t *testing.T) {
	r := rand.New(rand.NewSource(45))
	for _, l := range someLists(t, 200) {
		for range 30 {
			nodes := make([]int, 2+r.Intn(4))
			for i := range nodes {
				nodes[i] = r.Intn(len(l) + 1)
			}
			last := nodes[len(nodes)-1]
			if m, want := forest.Meet(l, forest.Meet(l, nodes[:len(nodes)-1]...), last), forest.Meet(l, nodes...); m != want {
				t.Fatalf("Meet of %v: %d; by two: %d, of %v", nodes, want, m, l)
			}
		}
	}
}
