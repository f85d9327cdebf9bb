package search

import (
	"math/rand"
	"slices"
	"testing"

	"deliberation/admissible"
	"deliberation/api"
	"deliberation/graph"
)

// P14.2

func TestNaiveSetsOfSomeGraphs(t *testing.T) {
	var single [][]int
	for i := range 40 {
		single = append(single, list(i))
	}
	fourth := where(40, func(from, to int) bool { return from%4 == to%4 && from != to })
	for i, x := range []struct {
		g    api.Graph
		want [][]int
	}{
		// no attacks between nodes: nodes that attack themselves are in no set
		{of(1), lists(list(0))}, {of(1, 0, 0), lists(nil)}, {of(3), lists(list(0, 1, 2))}, {of(3, 1, 1), lists(list(0, 2))}, {of(3, 0, 0, 2, 2), lists(list(1))}, {of(40), lists(all(40))}, {times(40, of(1, 0, 0)), lists(nil)}, {of(40, 0, 0, 39, 39), lists(all(39)[1:])},
		// an attack in any direction is a conflict
		{of(2, 0, 1), lists(list(0), list(1))}, {of(2, 1, 0), lists(list(0), list(1))}, {chain(3), lists(list(0, 2), list(1))}, {graph.Reverse(chain(3)), lists(list(0, 2), list(1))}, {chain(4), lists(list(0, 2), list(0, 3), list(1, 3))}, {chain(5), lists(list(0, 2, 4), list(0, 3), list(1, 3), list(1, 4))},
		{of(5, 0, 1, 2, 1, 2, 3, 4, 3), lists(list(0, 2, 4), list(0, 3), list(1, 3), list(1, 4))}, {of(4, 0, 1, 0, 2, 0, 3), lists(list(0), list(1, 2, 3))}, {of(4, 1, 0, 2, 0, 3, 0), lists(list(0), list(1, 2, 3))}, {of(4, 0, 3, 1, 3, 2, 3), lists(list(0, 1, 2), list(3))}, {of(3, 1, 2), lists(list(0, 1), list(0, 2))},
		// a node that attacks itself keeps no other one out, whether it attacks it or is attacked by it
		{half, lists(list(0))}, {of(2, 0, 0, 0, 1), lists(list(1))}, {of(2, 0, 0, 1, 0), lists(list(1))}, {of(3, 0, 1, 1, 1, 1, 2), lists(list(0, 2))}, {of(3, 0, 1, 1, 2, 2, 2), lists(list(0), list(1))}, {of(4, 0, 1, 1, 1, 1, 2, 2, 3), lists(list(0, 2), list(0, 3))}, {of(3, 0, 0, 0, 1, 0, 2, 1, 0, 1, 1, 2, 0), lists(list(2))}, {full(2), lists(nil)}, {full(40), lists(nil)},
		// cycles, and others
		{cycle(3), lists(list(0), list(1), list(2))}, {cycle(4), lists(list(0, 2), list(1, 3))}, {cycle(5), lists(list(0, 2), list(0, 3), list(1, 3), list(1, 4), list(2, 4))}, {cycle(6), lists(list(0, 2, 4), list(0, 3), list(1, 3, 5), list(1, 4), list(2, 5))}, {times(2, pair), lists(list(0, 2), list(0, 3), list(1, 2), list(1, 3))},
		{of(4, 0, 2, 1, 3), lists(list(0, 1), list(0, 3), list(1, 2), list(2, 3))}, {of(4, 0, 3, 1, 2), lists(list(0, 1), list(0, 2), list(1, 3), list(2, 3))}, {of(4, 0, 1, 1, 2, 2, 0, 2, 3), lists(list(0, 3), list(1, 3), list(2))}, {of(5, 0, 4, 1, 4, 2, 4, 3, 4), lists(list(0, 1, 2, 3), list(4))},
		// the greatest graphs
		{rivals(40), single}, {tower(40), single}, {graph.Reverse(tower(40)), single}, {star(40), lists(list(0), all(40)[1:])}, {halves(40), lists(all(20), those(40, func(i int) bool { return i >= 20 }))}, {where(40, func(from, to int) bool { return from%2 < to%2 }), lists(even(40), odd(40))}, {where(40, func(from, to int) bool { return to == 39 }), lists(all(39))}, {where(40, func(from, to int) bool { return to == 39 && from != 39 }), lists(all(39), list(39))},
		{graph.Induced(fourth, []int{0, 1, 2, 3, 4, 5, 6, 7}), lists(list(0, 1, 2, 3), list(0, 1, 2, 7), list(0, 1, 3, 6), list(0, 1, 6, 7), list(0, 2, 3, 5), list(0, 2, 5, 7), list(0, 3, 5, 6), list(0, 5, 6, 7), list(1, 2, 3, 4), list(1, 2, 4, 7), list(1, 3, 4, 6), list(1, 4, 6, 7), list(2, 3, 4, 5), list(2, 4, 5, 7), list(3, 4, 5, 6), list(4, 5, 6, 7))},
		// the examples of the chapter
		{pair, lists(list(0), list(1))}, {of(0), lists(nil)},
	} {
		if got, err := Naive(x.g); err != api.OK || !same(got, x.want) {
			t.Errorf("graph %d: %d, %v", i, err, got)
		}
	}
}

// slowNaive takes the term of the chapter at its word.
func slowNaive(g api.Graph) [][]int {
	free := slices.DeleteFunc(setsOf(g.N), func(set []int) bool { return !admissible.ConflictFree(g, set) })
	contained := func(set []int) bool {
		return slices.ContainsFunc(free, func(other []int) bool { return len(other) > len(set) && within(set, other) })
	}
	naive := slices.DeleteFunc(slices.Clone(free), contained)
	slices.SortFunc(naive, slices.Compare)
	return naive
}

func within(a, b []int) bool {
	return !slices.ContainsFunc(a, func(i int) bool { return !slices.Contains(b, i) })
}

// greatest reports whether a set is conflict-free and with no further node.
func greatest(g api.Graph, set []int) bool {
	further := func(i int) bool {
		larger := slices.Sorted(slices.Values(append(slices.Clone(set), i)))
		return !slices.Contains(set, i) && admissible.ConflictFree(g, larger)
	}
	return admissible.ConflictFree(g, set) && !slices.ContainsFunc(all(g.N), further)
}

func TestNaiveSetsOfAllSmallGraphs(t *testing.T) {
	for g := range graphsUpTo(4) {
		found, err := Naive(g)
		checkFound(t, g, found, err, slowNaive(g))
	}
}

func TestNaiveSetsOfRandomGraphs(t *testing.T) {
	random := rand.New(rand.NewSource(145))
	several := 0
	for k := range 3000 {
		g := randomGraph(random, 4+random.Intn(3))
		if k%4 == 0 {
			g = randomGraph(random, 7+random.Intn(4))
		}
		found, err := Naive(g)
		checkFound(t, g, found, err, slowNaive(g))
		if len(found) > 5 {
			several++
		}
	}
	if several < 300 {
		t.Errorf("%d graphs with several sets only", several)
	}
}

func TestNaiveSetsOfGreatGraphs(t *testing.T) {
	checkGreatGraphs(t, 146, Naive, greatest, randomNaive)
}
