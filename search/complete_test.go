package search

import (
	"math/rand"
	"slices"
	"testing"

	"deliberation/admissible"
	"deliberation/api"
	"deliberation/graph"
	"deliberation/grounded"
	"deliberation/labelling"
)

// P14.1

func TestCompleteLabellingsOfSomeGraphs(t *testing.T) {
	undecided := func(n int) []int { return pattern(n, und) }
	var winners [][]int
	for i := range 40 {
		winners = append(winners, at(40, i, in, out))
	}
	for i, x := range []struct {
		g    api.Graph
		want [][]int
	}{
		// no attacks between nodes
		{of(1), lists(list(in))}, {of(1, 0, 0), lists(list(und))}, {of(3), lists(list(in, in, in))}, {of(3, 1, 1), lists(list(in, und, in))}, {of(40), lists(pattern(40, in))}, {times(40, of(1, 0, 0)), lists(undecided(40))},
		// one labelling
		{of(2, 0, 1), lists(list(in, out))}, {of(2, 1, 0), lists(list(out, in))}, {chain(3), lists(list(in, out, in))}, {of(2, 0, 0, 0, 1), lists(list(und, und))}, {of(2, 0, 0, 1, 0), lists(list(out, in))}, {of(3, 0, 0, 0, 1, 1, 2), lists(list(und, und, und))}, {of(3, 0, 0, 0, 2, 1, 2), lists(list(und, in, out))},
		{cycle(3), lists(undecided(3))}, {cycle(5), lists(undecided(5))}, {cycle(39), lists(undecided(39))}, {full(2), lists(undecided(2))}, {full(40), lists(undecided(40))}, {chain(40), lists(pattern(40, in, out))}, {graph.Reverse(chain(40)), lists(pattern(40, out, in))}, {tower(40), lists(at(40, 0, in, out))}, {graph.Reverse(tower(40)), lists(at(40, 39, in, out))},
		{of(4, 0, 1, 1, 2, 2, 0, 3, 0), lists(list(out, in, out, in))}, {of(4, 0, 1, 1, 2, 2, 0, 2, 3), lists(undecided(4))}, {of(4, 0, 1, 0, 2, 1, 3, 2, 3), lists(list(in, out, out, in))}, {of(5, 0, 1, 1, 2, 2, 1, 3, 3, 3, 4), lists(list(in, out, in, und, und))},
		// several
		{cycle(4), lists(list(in, out, in, out), list(out, in, out, in), undecided(4))}, {cycle(6), lists(pattern(6, in, out), pattern(6, out, in), undecided(6))}, {cycle(40), lists(pattern(40, in, out), pattern(40, out, in), undecided(40))}, {half, lists(list(in, out), list(und, und))}, {of(2, 0, 0, 0, 1, 1, 0), lists(list(out, in), list(und, und))},
		{rivals(3), lists(list(in, out, out), list(out, in, out), list(out, out, in), undecided(3))}, {rivals(40), append(slices.Clone(winners), undecided(40))}, {star(4), lists(list(in, out, out, out), list(out, in, in, in), undecided(4))}, {star(40), lists(at(40, 0, in, out), at(40, 0, out, in), undecided(40))}, {halves(4), lists(list(in, in, out, out), list(out, out, in, in), undecided(4))},
		{times(2, pair), lists(list(in, out, in, out), list(in, out, out, in), list(in, out, und, und), list(out, in, in, out), list(out, in, out, in), list(out, in, und, und), list(und, und, in, out), list(und, und, out, in), undecided(4))}, {of(4, 0, 2, 1, 3, 2, 0, 3, 1), lists(list(in, in, out, out), list(in, out, out, in), list(in, und, out, und), list(out, in, in, out), list(out, out, in, in), list(out, und, in, und), list(und, in, und, out), list(und, out, und, in), undecided(4))},
		// what depends on two that attack each other: a node that one of them attacks, or both of them, and a cycle
		{of(3, 0, 1, 1, 0, 1, 2), lists(list(in, out, in), list(out, in, out), undecided(3))}, {of(4, 0, 1, 0, 2, 1, 0, 1, 2, 2, 3), lists(list(in, out, out, in), list(out, in, out, in), undecided(4))}, {of(3, 0, 1, 1, 0, 1, 2, 2, 2), lists(list(in, out, und), list(out, in, out), undecided(3))}, {of(5, 0, 1, 1, 0, 1, 2, 2, 3, 3, 4, 4, 2), lists(list(in, out, und, und, und), list(out, in, out, in, out), undecided(5))},
		{of(4, 0, 1, 1, 0, 1, 2, 2, 3, 3, 2), lists(list(in, out, in, out), list(in, out, out, in), list(in, out, und, und), list(out, in, out, in), list(und, und, out, in), undecided(4))},
		// the nodes on which others depend come last
		{of(5, 0, 1, 1, 2, 3, 4, 4, 0, 4, 3), lists(list(in, out, in, in, out), list(out, in, out, out, in), undecided(5))}, {of(4, 1, 0, 2, 1, 2, 3, 3, 2), lists(list(in, out, in, out), list(out, in, out, in), undecided(4))}, {of(5, 1, 0, 2, 0, 3, 4, 4, 1, 4, 3), lists(list(out, in, in, in, out), list(out, out, in, out, in), list(out, und, in, und, und))},
		// the examples of the chapter
		{pair, lists(list(in, out), list(out, in), undecided(2))}, {of(0), lists(nil)},
	} {
		if got, err := Complete(x.g); err != api.OK || !same(got, x.want) {
			t.Errorf("graph %d: %d, %v", i, err, got)
		}
	}
}

// slowLabellings takes the sentence of P14.1 at its word.
func slowLabellings(g api.Graph) [][]int {
	candidates := lists(nil)
	for range g.N {
		candidates = product(candidates, lists(list(in), list(out), list(und)))
	}
	return slices.DeleteFunc(candidates, func(l []int) bool { return !labelling.IsComplete(g, l) })
}

// labellingsOfSets returns the labellings of the complete sets.
func labellingsOfSets(g api.Graph) [][]int {
	var found [][]int
	for _, set := range setsOf(g.N) {
		if admissible.IsComplete(g, set) {
			found = append(found, labelling.FromSet(g, set))
		}
	}
	slices.SortFunc(found, labelling.Compare)
	return found
}

func TestCompleteLabellingsOfAllSmallGraphs(t *testing.T) {
	for g := range graphsUpTo(4) {
		want := labellingsOfSets(g)
		if g.N < 4 && !same(want, slowLabellings(g)) {
			t.Fatalf("%v: the complete sets have the labellings %v", g, want)
		}
		found, err := Complete(g)
		checkFound(t, g, found, err, want)
	}
}

func TestCompleteLabellingsOfRandomGraphs(t *testing.T) {
	random := rand.New(rand.NewSource(142))
	several := 0
	for k := range 4000 {
		g := randomGraph(random, 4+random.Intn(2))
		want := labellingsOfSets(g)
		if k%4 == 0 {
			g = randomGraph(random, 6+random.Intn(4))
			want = labellingsOfSets(g)
		} else if !same(want, slowLabellings(g)) {
			t.Fatalf("%v: the complete sets have the labellings %v", g, want)
		}
		found, err := Complete(g)
		checkFound(t, g, found, err, want)
		if len(found) > 3 {
			several++
		}
	}
	if several < 300 {
		t.Errorf("%d graphs with several labellings only", several)
	}
}

// What grows from the admissible part of a conflict-free set is complete.
func TestCompleteLabellingsOfGreatGraphs(t *testing.T) {
	checkGreatGraphs(t, 143, Complete, labelling.IsComplete, func(random *rand.Rand, g api.Graph) []int {
		part, _ := admissible.Shrink(g, randomNaive(random, g))
		set, _ := admissible.Grow(g, part)
		return labelling.FromSet(g, set)
	})
}

// The consequences: there is a labelling, and they have the grounded one in common.
func TestTheCommonLabelsAreGrounded(t *testing.T) {
	several := 0
	for _, g := range mostNodes(144, 1500) {
		found, err := Complete(g)
		if err != api.OK {
			continue
		}
		if len(found) == 0 {
			t.Fatalf("%v: no complete labelling", g)
		}
		common := found[0]
		for _, l := range found {
			common = labelling.Meet(common, l)
		}
		if grounded := grounded.Label(g); !slices.Equal(common, grounded) {
			t.Fatalf("%v: %v instead of %v", g, common, grounded)
		}
		if len(found) > 1 && slices.Contains(common, in) {
			several++
		}
	}
	if several < 100 {
		t.Errorf("%d graphs with several labellings only", several)
	}
}
