package admissible

import (
	"math"
	"math/rand"
	"slices"
	"testing"

	"deliberation/api"
	"deliberation/graph"
	"deliberation/grounded"
	"deliberation/labelling"
)

// P13.2

func TestGrowthOfSomeSets(t *testing.T) {
	pair, self, g := of(2, 0, 1, 1, 0), of(1, 0, 0), mixed
	for i, x := range []struct {
		g         api.Graph
		set, want []int
		err       api.Errno
	}{
		{of(0), nil, nil, api.OK}, {of(0), list(), nil, api.OK}, {of(3), nil, all(3), api.OK}, {of(3), list(1), all(3), api.OK}, {of(3), all(3), all(3), api.OK}, {self, nil, nil, api.OK}, {pair, nil, nil, api.OK}, {pair, list(0), list(0), api.OK}, {pair, list(1), list(1), api.OK},
		// one step, and several
		{g, nil, list(6), api.OK}, {g, list(6), list(6), api.OK}, {g, list(0), list(0, 2, 6), api.OK}, {g, list(1), list(1, 3, 6), api.OK}, {g, list(0, 2), list(0, 2, 6), api.OK}, {g, list(0, 6), list(0, 2, 6), api.OK}, {g, list(1, 3, 6), list(1, 3, 6), api.OK},
		{chain(5), nil, list(0, 2, 4), api.OK}, {chain(5), list(0), list(0, 2, 4), api.OK}, {chain(5), list(0, 2), list(0, 2, 4), api.OK}, {chain(40), nil, even(40), api.OK}, {chain(40), list(0, 2, 4), even(40), api.OK}, {graph.Reverse(chain(40)), nil, odd(40), api.OK}, {cycle(40), nil, nil, api.OK}, {cycle(40), odd(40), odd(40), api.OK},
		{of(6, 0, 1, 1, 0, 1, 2, 2, 3, 3, 4, 4, 5), list(0), list(0, 2, 4), api.OK}, {of(6, 0, 1, 1, 0, 1, 2, 2, 3, 3, 4, 4, 5), list(1), list(1, 3, 5), api.OK}, {of(5, 0, 1, 1, 0, 2, 3, 3, 2, 3, 4), list(0), list(0), api.OK}, {of(5, 0, 1, 1, 0, 2, 3, 3, 2, 3, 4), list(2), list(2, 4), api.OK}, {of(5, 0, 1, 1, 0, 2, 3, 3, 2, 3, 4), list(0, 2), list(0, 2, 4), api.OK},
		{of(5, 0, 1, 0, 2, 1, 3, 2, 3, 3, 4), nil, list(0, 3), api.OK}, {of(40), nil, all(40), api.OK}, {of(40), list(17), all(40), api.OK}, {full(40), nil, nil, api.OK},
		// sets that are not admissible: with a conflict, or with a node that is not defended
		{self, list(0), nil, api.ErrState}, {pair, list(0, 1), nil, api.ErrState}, {of(2, 0, 1), list(1), nil, api.ErrState}, {of(2, 0, 1), list(0, 1), nil, api.ErrState}, {g, list(2), nil, api.ErrState}, {g, list(3), nil, api.ErrState}, {g, list(0, 3), nil, api.ErrState}, {g, list(4), nil, api.ErrState}, {g, list(5), nil, api.ErrState}, {g, list(2, 3), nil, api.ErrState}, {g, list(0, 1, 2), nil, api.ErrState}, {g, list(0, 2, 5), nil, api.ErrState},
		{cycle(3), list(0), nil, api.ErrState}, {cycle(4), list(0), nil, api.ErrState}, {cycle(40), odd(40)[1:], nil, api.ErrState}, {chain(40), odd(40), nil, api.ErrState}, {full(40), list(39), nil, api.ErrState}, {full(40), all(40), nil, api.ErrState},
		// of both errors, the first one
		{full(3), list(0, 1, 3), nil, api.ErrRange}, {full(3), list(1, 0), nil, api.ErrRange}, {chain(3), list(2, 1), nil, api.ErrRange}, {chain(3), list(1, 1), nil, api.ErrRange}, {of(0), list(0), nil, api.ErrRange}, {of(40), all(41), nil, api.ErrRange},
		// the example of the chapter
		{chain(3), nil, list(0, 2), api.OK},
	} {
		if got, err := Grow(x.g, x.set); err != x.err || !slices.Equal(got, x.want) {
			t.Errorf("set %d: %v, %d instead of %v, %d", i, got, err, x.want, x.err)
		}
	}
}

// slowGrow takes the sentence of P13.2 at its word.
func slowGrow(g api.Graph, set []int) ([]int, api.Errno) {
	if !slowAdmissible(g, set) {
		return nil, api.ErrState
	}
	for {
		next := slowStep(g, set)
		if slices.Equal(next, set) {
			return set, api.OK
		}
		set = next
	}
}

// P13.3

func TestShrinkingOfSomeSets(t *testing.T) {
	pair, self, g := of(2, 0, 1, 1, 0), of(1, 0, 0), mixed
	for i, x := range []struct {
		g         api.Graph
		set, want []int
		err       api.Errno
	}{
		{of(0), nil, nil, api.OK}, {of(0), list(), nil, api.OK}, {of(3), nil, nil, api.OK}, {of(3), list(1), list(1), api.OK}, {of(3), all(3), all(3), api.OK}, {self, nil, nil, api.OK}, {pair, nil, nil, api.OK}, {pair, list(0), list(0), api.OK}, {pair, list(1), list(1), api.OK},
		// nothing is left out, or something in one step
		{g, nil, nil, api.OK}, {g, list(0), list(0), api.OK}, {g, list(0, 2, 6), list(0, 2, 6), api.OK}, {g, list(1, 3), list(1, 3), api.OK}, {g, list(2), nil, api.OK}, {g, list(3), nil, api.OK}, {g, list(0, 3), list(0), api.OK}, {g, list(2, 6), list(6), api.OK}, {g, list(3, 6), list(6), api.OK}, {g, list(5), nil, api.OK}, {g, list(0, 2, 5, 6), list(0, 2, 6), api.OK},
		{of(2, 0, 1), list(1), nil, api.OK}, {of(2, 0, 1), list(0), list(0), api.OK}, {cycle(3), list(0), nil, api.OK}, {cycle(4), list(0), nil, api.OK}, {cycle(4), list(0, 2), list(0, 2), api.OK},
		// what is left out defended others
		{chain(5), list(2, 4), nil, api.OK}, {chain(6), list(1, 3, 5), nil, api.OK}, {chain(5), list(0, 4), list(0), api.OK}, {chain(7), list(0, 2, 6), list(0, 2), api.OK}, {chain(40), odd(40), nil, api.OK}, {chain(40), even(40), even(40), api.OK}, {chain(40), even(40)[1:], nil, api.OK}, {graph.Reverse(chain(40)), even(40), nil, api.OK}, {cycle(40), odd(40), odd(40), api.OK},
		{cycle(40), odd(40)[1:], nil, api.OK}, {cycle(40), even(40)[:19], nil, api.OK}, {of(5, 0, 1, 1, 2, 2, 3, 4, 1), list(2, 4), list(2, 4), api.OK}, {of(6, 0, 1, 1, 2, 2, 3, 3, 4, 4, 5), list(0, 3, 5), list(0), api.OK}, {of(5, 0, 2, 1, 2, 3, 0, 4, 1), list(2, 3), list(3), api.OK}, {of(40), all(40), all(40), api.OK},
		// all that are not defended are left out at once, though some of them would defend others: nothing else would come out
		{of(6, 0, 1, 1, 2, 2, 3, 3, 4, 5, 3), list(2, 4, 5), list(4, 5), api.OK}, {of(4, 0, 1, 1, 0, 2, 1, 3, 2), list(0, 2), list(0), api.OK},
		// conflicts
		{self, list(0), nil, api.ErrConflict}, {pair, list(0, 1), nil, api.ErrConflict}, {of(2, 0, 1), list(0, 1), nil, api.ErrConflict}, {of(2, 1, 0), list(0, 1), nil, api.ErrConflict}, {g, list(4), nil, api.ErrConflict}, {g, list(2, 3), nil, api.ErrConflict}, {g, list(0, 2, 4), nil, api.ErrConflict}, {g, all(7), nil, api.ErrConflict}, {full(40), list(39), nil, api.ErrConflict}, {chain(40), list(38, 39), nil, api.ErrConflict}, {cycle(40), list(0, 39), nil, api.ErrConflict},
		// of both errors, the first one
		{full(3), list(0, 1, 3), nil, api.ErrRange}, {full(3), list(1, 0), nil, api.ErrRange}, {chain(3), list(2, 1), nil, api.ErrRange}, {chain(3), list(1, 1), nil, api.ErrRange}, {of(0), list(0), nil, api.ErrRange}, {of(40), all(41), nil, api.ErrRange},
		// the example of the chapter
		{of(3, 1, 2), list(0, 2), list(0), api.OK},
	} {
		if got, err := Shrink(x.g, x.set); err != x.err || !slices.Equal(got, x.want) {
			t.Errorf("set %d: %v, %d instead of %v, %d", i, got, err, x.want, x.err)
		}
	}
}

// slowShrink takes the sentence of P13.3 at its word.
func slowShrink(g api.Graph, set []int) ([]int, api.Errno) {
	if !slowFree(g, set) {
		return nil, api.ErrConflict
	}
	for {
		next := slices.DeleteFunc(slices.Clone(set), func(i int) bool { return !slowDefends(g, set, i) })
		if len(next) == len(set) {
			return set, api.OK
		}
		set = next
	}
}

// P13.2 and P13.3

// checkBoth compares Grow and Shrink with the chapter, and reports which of them change the set.
func checkBoth(t *testing.T, g api.Graph, set []int) (grows, shrinks bool) {
	t.Helper()
	grown, err := Grow(g, set)
	if want, e := slowGrow(g, set); err != e || !slices.Equal(grown, want) {
		t.Fatalf("%v: %v: grow %v, %d instead of %v, %d", g, set, grown, err, want, e)
	}
	grows = err == api.OK && len(grown) > len(set)
	shrunk, err := Shrink(g, set)
	if want, e := slowShrink(g, set); err != e || !slices.Equal(shrunk, want) {
		t.Fatalf("%v: %v: shrink %v, %d instead of %v, %d", g, set, shrunk, err, want, e)
	}
	return grows, err == api.OK && len(shrunk) < len(set)
}

func TestGrowthAndShrinkingOfAllSetsOfSmallGraphs(t *testing.T) {
	for g := range graphsUpTo(3) {
		for _, set := range setsOf(g.N) {
			checkBoth(t, g, set)
		}
	}
}

func TestGrowthAndShrinkingOfRandomSets(t *testing.T) {
	random := rand.New(rand.NewSource(132))
	grown, shrunk := 0, 0
	for k := range 20000 {
		g := randomGraph(random, 12)
		if k%10 == 0 {
			g = randomGraph(random, api.MaxNodes)
		}
		grows, shrinks := checkBoth(t, g, randomSet(random, g))
		if grows {
			grown++
		}
		if shrinks {
			shrunk++
		}
	}
	if grown < 1000 || shrunk < 1000 {
		t.Errorf("%d sets have grown, %d have become smaller", grown, shrunk)
	}
}

func TestNoSetHasTheSameErrorOfGrowAndShrink(t *testing.T) {
	for _, g := range []api.Graph{of(3), chain(3), cycle(3), full(3)} {
		for i, l := range noSets {
			if got, err := Grow(g, l); err != api.ErrRange || len(got) > 0 {
				t.Errorf("%v: list %d: grow %v, %d", g, i, got, err)
			}
			if got, err := Shrink(g, l); err != api.ErrRange || len(got) > 0 {
				t.Errorf("%v: list %d: shrink %v, %d", g, i, got, err)
			}
		}
	}
}

// The consequences.

// graphsOfConsequences returns all graphs with at most three nodes, and some random ones with at most six.
func graphsOfConsequences(seed int64) func(yield func(api.Graph) bool) {
	return func(yield func(api.Graph) bool) {
		for g := range graphsUpTo(3) {
			if !yield(g) {
				return
			}
		}
		random := rand.New(rand.NewSource(seed))
		for range 300 {
			if !yield(randomGraph(random, 6)) {
				return
			}
		}
	}
}

func TestGrowAndShrinkReturnTheLeastAndTheGreatestSets(t *testing.T) {
	for g := range graphsOfConsequences(133) {
		sets := setsOf(g.N)
		for _, set := range sets {
			grown, err := Grow(g, set)
			if err == api.OK && (!IsComplete(g, grown) || !within(set, grown)) {
				t.Fatalf("%v: %v: grow %v", g, set, grown)
			}
			shrunk, failure := Shrink(g, set)
			if failure == api.OK && (!Admissible(g, shrunk) || !within(shrunk, set)) {
				t.Fatalf("%v: %v: shrink %v", g, set, shrunk)
			}
			for _, other := range sets {
				if err == api.OK && IsComplete(g, other) && within(set, other) && !within(grown, other) {
					t.Fatalf("%v: %v: grow %v, and %v is complete, too", g, set, grown, other)
				}
				if failure == api.OK && Admissible(g, other) && within(other, set) && !within(other, shrunk) {
					t.Fatalf("%v: %v: shrink %v, and %v is admissible, too", g, set, shrunk, other)
				}
			}
		}
	}
}

func union(a, b []int) []int {
	both := slices.Sorted(slices.Values(slices.Concat(a, b)))
	return slices.Compact(both)
}

func TestTheCharacteristicFunctionIsMonotone(t *testing.T) {
	for g := range graphsOfConsequences(134) {
		for _, set := range setsOf(g.N) {
			for i := range g.N {
				if larger := union(set, list(i)); !within(Step(g, set), Step(g, larger)) {
					t.Fatalf("%v: %v defends %v, %v only %v", g, set, Step(g, set), larger, Step(g, larger))
				}
			}
		}
	}
}

func TestAdmissibleSetsWithWhatTheyDefend(t *testing.T) {
	for g := range graphsOfConsequences(135) {
		for _, set := range setsOf(g.N) {
			if !Admissible(g, set) {
				continue
			}
			for _, i := range Step(g, set) {
				if larger := union(set, list(i)); !Admissible(g, larger) || !within(Step(g, set), Step(g, larger)) {
					t.Fatalf("%v: %v with %d", g, set, i)
				}
			}
		}
	}
}

func TestUnionsOfAdmissibleSets(t *testing.T) {
	unions := 0
	for g := range graphsOfConsequences(136) {
		sets := slices.DeleteFunc(setsOf(g.N), func(set []int) bool { return !Admissible(g, set) })
		for _, a := range sets {
			for _, b := range sets {
				both := union(a, b)
				if Admissible(g, both) != ConflictFree(g, both) {
					t.Fatalf("%v: %v and %v", g, a, b)
				}
				if ConflictFree(g, both) && len(both) > max(len(a), len(b)) {
					unions++
				}
			}
		}
	}
	if unions < 500 {
		t.Errorf("%d unions only", unions)
	}
}

func TestStableSetsAreComplete(t *testing.T) {
	stable := 0
	for g := range graphsOfConsequences(137) {
		for _, set := range setsOf(g.N) {
			if IsStable(g, set) {
				stable++
				if !IsComplete(g, set) || !slices.Equal(Range(g, set), all(g.N)) {
					t.Fatalf("%v: %v is stable, but not complete", g, set)
				}
			}
		}
	}
	if stable < 300 {
		t.Errorf("%d stable sets only", stable)
	}
}

func TestSetsAndLabellings(t *testing.T) {
	for g := range graphsOfConsequences(138) {
		for _, set := range setsOf(g.N) {
			labels := labelling.FromSet(g, set)
			if IsComplete(g, set) != labelling.IsComplete(g, labels) {
				t.Fatalf("%v: %v is complete: %v", g, set, IsComplete(g, set))
			}
		}
		if got, err := Grow(g, nil); err != api.OK || !slices.Equal(got, labelling.With(grounded.Label(g), api.In)) {
			t.Fatalf("%v: %v, %d from the empty set", g, got, err)
		}
	}
}

// R1, R2, R7

// faulty are graphs that are not valid.
var faulty = []api.Graph{
	of(-1), of(41), of(64), of(65), of(1 << 32), of(1<<32 + 3), of(math.MaxInt), of(math.MinInt), of(math.MaxInt, 0, 1), of(-1, 0, 0), of(0, 0, 0), of(3, 0, 3), of(3, 3, 0), of(3, -1, 0), of(3, 0, -1),
	of(3, math.MinInt, math.MaxInt), of(3, 1<<32, 1), of(2, 1, 0, 0, 1), of(3, 0, 1, 0, 1), of(3, 0, 1, 1, 2, 2, 99), of(41, 40, 40), of(40, 39, 40), of(3, 0, 1, 1, 2, 1, 1),
}

func TestGraphsThatAreNotValid(t *testing.T) {
	for i, g := range faulty {
		for _, set := range append([][]int{nil, list(0), list(1), list(0, 2), all(3), all(40), list(40), list(50), list(63, 64), list(70)}, noSets...) {
			// nothing is specified, but that the functions come back
			reach := Valid(g, set) || ConflictFree(g, set) || Admissible(g, set) || IsComplete(g, set) || IsStable(g, set)
			for _, k := range []int{0, 1, 40, 64, -1, math.MaxInt, math.MinInt} {
				reach = Defends(g, set, k) || reach
			}
			grown, _ := Grow(g, set)
			shrunk, _ := Shrink(g, set)
			if n := len(Step(g, set)) + len(Range(g, set)) + len(grown) + len(shrunk); n > 4*64 {
				t.Errorf("graph %d: %v: %v, %d nodes", i, set, reach, n)
			}
		}
	}
}

func overwrite(l []int) {
	for k := range l[:cap(l)] {
		l[:cap(l)][k] = 77
	}
}

func TestTheFunctionsLeaveTheirArguments(t *testing.T) {
	whole := of(5, 0, 1, 1, 2, 2, 3, 4, 4, 9, 9)
	g := api.Graph{N: whole.N, L: whole.L[:4]}
	spare := list(0, 2, 9, 9)
	set, attacks := spare[:2], slices.Clone(whole.L)
	for range 2 {
		if !Valid(g, set) || !ConflictFree(g, set) || !Defends(g, set, 2) || !Admissible(g, set) || !IsComplete(g, set) || IsStable(g, set) {
			t.Error("other facts")
		}
		grown, err := Grow(g, set)
		shrunk, failure := Shrink(g, set)
		lists := [][]int{grown, shrunk, Step(g, set), Range(g, set)}
		for k, want := range [][]int{list(0, 2), list(0, 2), list(0, 2), list(0, 1, 2, 3)} {
			if err != api.OK || failure != api.OK || !slices.Equal(lists[k], want) {
				t.Errorf("list %d: %v", k, lists[k])
			}
			overwrite(lists[k])
		}
	}
	if !slices.Equal(whole.L, attacks) || !slices.Equal(spare, list(0, 2, 9, 9)) {
		t.Errorf("changed: %v, %v", whole.L, spare)
	}
}
