package admissible

import (
	"math"
	"math/rand"
	"slices"
	"testing"

	"deliberation/api"
	"deliberation/graph"
)

func list(x ...int) []int { return x }

// of returns the graph with n nodes and attacks from pairs of numbers.
func of(n int, numbers ...int) api.Graph {
	g := api.Graph{N: n}
	for k := 0; k < len(numbers); k += 2 {
		g.L = append(g.L, api.Pair{From: numbers[k], To: numbers[k+1]})
	}
	return g
}

// where returns the graph with n nodes and the attacks for which a condition holds.
func where(n int, attacks func(from, to int) bool) api.Graph {
	g := api.Graph{N: n}
	for from := range n {
		for to := range n {
			if attacks(from, to) {
				g.L = append(g.L, api.Pair{From: from, To: to})
			}
		}
	}
	return g
}

func full(n int) api.Graph  { return where(n, func(int, int) bool { return true }) }
func cycle(n int) api.Graph { return where(n, func(from, to int) bool { return to == (from+1)%n }) }
func chain(n int) api.Graph { return where(n, func(from, to int) bool { return to == from+1 }) }

// mixed: 0 and 1 attack each other, 1 attacks 2, 2 attacks 3, 4 attacks itself and 5, and 6 is alone.
var mixed = of(7, 0, 1, 1, 0, 1, 2, 2, 3, 4, 4, 4, 5)

// those returns the numbers below n for which a condition holds.
func those(n int, holds func(i int) bool) []int {
	var l []int
	for i := range n {
		if holds(i) {
			l = append(l, i)
		}
	}
	return l
}

func all(n int) []int  { return those(n, func(int) bool { return true }) }
func even(n int) []int { return those(n, func(i int) bool { return i%2 == 0 }) }
func odd(n int) []int  { return those(n, func(i int) bool { return i%2 == 1 }) }

// graphsUpTo returns all graphs with at most n nodes.
func graphsUpTo(n int) func(yield func(api.Graph) bool) {
	return func(yield func(api.Graph) bool) {
		for size := range n + 1 {
			for set := range 1 << (size * size) {
				if !yield(where(size, func(from, to int) bool { return set>>(size*from+to)&1 == 1 })) {
					return
				}
			}
		}
	}
}

// setsOf returns all sets of the numbers below n.
func setsOf(n int) [][]int {
	var sets [][]int
	for bits := range 1 << n {
		sets = append(sets, those(n, func(i int) bool { return bits>>i&1 == 1 }))
	}
	return sets
}

// randomGraph returns a random graph with at most n nodes: with few attacks or with many, and with or without attacks on the attacker and on itself.
func randomGraph(random *rand.Rand, n int) api.Graph {
	n = random.Intn(n + 1)
	attacks := []float64{0.3, 0.7, 1, 1.5, 2, float64(n) / 3}[random.Intn(6)] // by a node, on average
	back := []float64{0, 0.3, 0.9}[random.Intn(3)]
	self := []float64{0, 0, 0.1}[random.Intn(3)]
	chosen := make(map[api.Pair]bool)
	for from := range n {
		for to := range n {
			if from == to {
				chosen[api.Pair{From: from, To: to}] = random.Float64() < self
			} else if random.Float64()*float64(n) < attacks {
				chosen[api.Pair{From: from, To: to}] = true
				chosen[api.Pair{From: to, To: from}] = chosen[api.Pair{From: to, To: from}] || random.Float64() < back
			}
		}
	}
	return where(n, func(from, to int) bool { return chosen[api.Pair{From: from, To: to}] })
}

// randomSet returns a random set of nodes, often a conflict-free one.
func randomSet(random *rand.Rand, g api.Graph) []int {
	chance, free := random.Float64(), random.Intn(3) > 0
	var set []int
	for _, i := range random.Perm(g.N) {
		larger := append(slices.Clone(set), i)
		if random.Float64() < chance && (!free || slowFree(g, larger)) {
			set = larger
		}
	}
	slices.Sort(set)
	return set
}

// The terms of the chapter, at their word.

func slowFree(g api.Graph, set []int) bool {
	for _, p := range g.L {
		if slices.Contains(set, p.From) && slices.Contains(set, p.To) {
			return false
		}
	}
	return true
}

func slowAttacks(g api.Graph, set []int, i int) bool {
	return slices.ContainsFunc(graph.Attackers(g, i), func(k int) bool { return slices.Contains(set, k) })
}

func slowDefends(g api.Graph, set []int, i int) bool {
	return !slices.ContainsFunc(graph.Attackers(g, i), func(k int) bool { return !slowAttacks(g, set, k) })
}

func slowStep(g api.Graph, set []int) []int {
	return those(g.N, func(i int) bool { return slowDefends(g, set, i) })
}

func slowAdmissible(g api.Graph, set []int) bool {
	return slowFree(g, set) && within(set, slowStep(g, set))
}

func slowComplete(g api.Graph, set []int) bool {
	return slowAdmissible(g, set) && within(slowStep(g, set), set)
}

func slowStable(g api.Graph, set []int) bool {
	outside := those(g.N, func(i int) bool { return !slices.Contains(set, i) })
	return slowFree(g, set) && !slices.ContainsFunc(outside, func(i int) bool { return !slowAttacks(g, set, i) })
}

func slowRange(g api.Graph, set []int) []int {
	return those(g.N, func(i int) bool { return slices.Contains(set, i) || slowAttacks(g, set, i) })
}

func within(a, b []int) bool {
	return !slices.ContainsFunc(a, func(i int) bool { return !slices.Contains(b, i) })
}

// P13.1

func TestSetsOfNodes(t *testing.T) {
	many := all(1 << 20)
	for i, x := range []struct {
		g    api.Graph
		list []int
		want bool
	}{
		{of(0), nil, true}, {of(0), list(), true}, {of(3), nil, true}, {of(3), list(0), true}, {of(3), list(2), true}, {of(3), list(0, 2), true}, {of(3), list(0, 1, 2), true}, {full(3), list(0, 1, 2), true},
		{of(40), all(40), true}, {of(40), list(39), true}, {full(40), even(40), true}, {chain(40), odd(40), true},
		// numbers that are not nodes
		{of(0), list(0), false}, {of(3), list(3), false}, {of(3), list(-1), false}, {of(3), list(0, 3), false}, {of(3), list(-1, 0), false}, {of(3), list(0, 1, 2, 3), false}, {of(40), list(40), false}, {of(40), all(41), false}, {of(40), list(63), false}, {of(40), list(64), false}, {of(40), list(0, 64), false},
		{of(3), list(math.MinInt), false}, {of(3), list(math.MaxInt), false}, {of(3), list(math.MinInt, 0, 1), false}, {of(3), list(0, math.MaxInt), false}, {of(3), list(1 << 32), false}, {of(3), list(0, 1<<32+1), false},
		// lists that are not strictly ascending
		{of(3), list(1, 0), false}, {of(3), list(0, 0), false}, {of(3), list(0, 1, 1), false}, {of(3), list(0, 2, 1), false}, {of(3), list(2, 0, 1), false}, {of(3), list(1, 2, 0), false}, {of(3), list(2, 2, 2), false}, {of(40), append(all(40), 39), false}, {of(40), append(all(40), 0), false},
		// both, and long lists
		{of(3), list(3, 2), false}, {of(3), list(3, 3), false}, {of(3), list(0, -1), false}, {of(3), list(math.MaxInt, math.MinInt), false}, {of(40), many, false}, {of(0), many, false}, {of(3), make([]int, 1<<20), false},
	} {
		if got := Valid(x.g, x.list); got != x.want {
			t.Errorf("list %d: %v", i, got)
		}
	}
}

// facts are what P13.1 says about a set.
type facts struct {
	free, admissible, complete, stable bool
	step, reach                        []int
}

func checkFacts(t *testing.T, g api.Graph, set []int, want facts) {
	t.Helper()
	if !Valid(g, set) {
		t.Fatalf("%v: %v is no set", g, set)
	}
	if got := ConflictFree(g, set); got != want.free {
		t.Errorf("%v: %v: conflict-free: %v", g, set, got)
	}
	if got := Admissible(g, set); got != want.admissible {
		t.Errorf("%v: %v: admissible: %v", g, set, got)
	}
	if got := IsComplete(g, set); got != want.complete {
		t.Errorf("%v: %v: complete: %v", g, set, got)
	}
	if got := IsStable(g, set); got != want.stable {
		t.Errorf("%v: %v: stable: %v", g, set, got)
	}
	if got := Step(g, set); !slices.Equal(got, want.step) {
		t.Errorf("%v: %v: step %v instead of %v", g, set, got, want.step)
	}
	if got := Range(g, set); !slices.Equal(got, want.reach) {
		t.Errorf("%v: %v: range %v instead of %v", g, set, got, want.reach)
	}
	if got := those(g.N+2, func(i int) bool { return Defends(g, set, i) }); !slices.Equal(got, want.step) {
		t.Errorf("%v: %v: defends %v instead of %v", g, set, got, want.step)
	}
	if t.Failed() {
		t.FailNow()
	}
}

func TestFactsAboutSomeSets(t *testing.T) {
	pair, self, g := of(2, 0, 1, 1, 0), of(1, 0, 0), mixed
	for _, x := range []struct {
		g                                  api.Graph
		set                                []int
		free, admissible, complete, stable bool
		step, reach                        []int
	}{
		// no node, and no attack
		{of(0), nil, true, true, true, true, nil, nil}, {of(3), nil, true, true, false, false, list(0, 1, 2), nil}, {of(3), list(1), true, true, false, false, list(0, 1, 2), list(1)}, {of(3), list(0, 1, 2), true, true, true, true, list(0, 1, 2), list(0, 1, 2)},
		// a node that attacks itself is in no conflict-free set, and defends itself against itself alone
		{self, nil, true, true, true, false, nil, nil}, {self, list(0), false, false, false, false, list(0), list(0)}, {of(2, 0, 0, 1, 0), list(1), true, true, true, true, list(1), list(0, 1)}, {of(2, 0, 0, 1, 0), list(0, 1), false, false, false, false, list(1), list(0, 1)},
		{of(2, 0, 0, 1, 0), list(0), false, false, false, false, list(1), list(0)}, {of(2, 0, 0, 0, 1), list(1), true, false, false, false, nil, list(1)}, {of(2, 0, 0, 0, 1), nil, true, true, true, false, nil, nil}, {of(2, 0, 0, 0, 1), list(0), false, false, false, false, list(0, 1), list(0, 1)},
		// two nodes that attack each other
		{pair, nil, true, true, true, false, nil, nil}, {pair, list(0), true, true, true, true, list(0), list(0, 1)}, {pair, list(1), true, true, true, true, list(1), list(0, 1)}, {pair, list(0, 1), false, false, false, false, list(0, 1), list(0, 1)},
		// an attack in one direction
		{of(2, 0, 1), nil, true, true, false, false, list(0), nil}, {of(2, 0, 1), list(0), true, true, true, true, list(0), list(0, 1)}, {of(2, 0, 1), list(1), true, false, false, false, list(0), list(1)}, {of(2, 0, 1), list(0, 1), false, false, false, false, list(0), list(0, 1)}, {of(2, 1, 0), list(1), true, true, true, true, list(1), list(0, 1)},
		// cycles
		{cycle(3), nil, true, true, true, false, nil, nil}, {cycle(3), list(0), true, false, false, false, list(2), list(0, 1)}, {cycle(3), list(1), true, false, false, false, list(0), list(1, 2)}, {cycle(3), list(0, 1), false, false, false, false, list(0, 2), list(0, 1, 2)}, {cycle(3), list(0, 1, 2), false, false, false, false, list(0, 1, 2), list(0, 1, 2)},
		{cycle(4), list(0), true, false, false, false, list(2), list(0, 1)}, {cycle(4), list(0, 2), true, true, true, true, list(0, 2), list(0, 1, 2, 3)}, {cycle(4), list(1, 3), true, true, true, true, list(1, 3), list(0, 1, 2, 3)}, {cycle(4), list(0, 1), false, false, false, false, list(2, 3), list(0, 1, 2)},
		// one and the other at once
		{g, nil, true, true, false, false, list(6), nil}, {g, list(6), true, true, true, false, list(6), list(6)}, {g, list(0, 6), true, true, false, false, list(0, 2, 6), list(0, 1, 6)}, {g, list(0, 2, 6), true, true, true, false, list(0, 2, 6), list(0, 1, 2, 3, 6)}, {g, list(1, 6), true, true, false, false, list(1, 3, 6), list(0, 1, 2, 6)},
		{g, list(1, 3, 6), true, true, true, false, list(1, 3, 6), list(0, 1, 2, 3, 6)}, {g, list(1, 3), true, true, false, false, list(1, 3, 6), list(0, 1, 2, 3)}, {g, list(2, 6), true, false, false, false, list(6), list(2, 3, 6)}, {g, list(0, 3), true, false, false, false, list(0, 2, 6), list(0, 1, 3)}, {g, list(0, 1), false, false, false, false, list(0, 1, 2, 3, 6), list(0, 1, 2)},
		{g, list(2, 3), false, false, false, false, list(6), list(2, 3)}, {g, list(1, 2), false, false, false, false, list(1, 3, 6), list(0, 1, 2, 3)}, {g, list(4), false, false, false, false, list(4, 5, 6), list(4, 5)}, {g, list(5), true, false, false, false, list(6), list(5)}, {g, all(7), false, false, false, false, all(7), all(7)}, {g, list(0, 2, 5, 6), true, false, false, false, list(0, 2, 6), list(0, 1, 2, 3, 5, 6)},
		// every attacker counts, and all of the set's nodes defend together
		{of(5, 0, 2, 1, 2, 3, 0, 4, 1), list(3), true, true, false, false, list(3, 4), list(0, 3)}, {of(5, 0, 2, 1, 2, 3, 0, 4, 1), list(3, 4), true, true, false, false, list(2, 3, 4), list(0, 1, 3, 4)}, {of(5, 0, 2, 1, 2, 3, 0, 4, 1), list(2, 3), true, false, false, false, list(3, 4), list(0, 2, 3)}, {of(5, 0, 2, 1, 2, 3, 0, 4, 1), list(2, 3, 4), true, true, true, true, list(2, 3, 4), all(5)},
		// defence by a set that has conflicts
		{of(3, 0, 1, 1, 2, 2, 1), list(1), true, false, false, false, list(0), list(1, 2)}, {of(3, 0, 1, 1, 0, 1, 2, 2, 1), list(0, 1), false, false, false, false, list(0, 1, 2), list(0, 1, 2)},
		// a complete set that is not stable, and one that misses a node
		{of(4, 0, 1, 2, 3, 3, 2), list(0), true, true, true, false, list(0), list(0, 1)}, {of(4, 0, 1, 2, 3, 3, 2), list(0, 2), true, true, true, true, list(0, 2), all(4)}, {of(4, 0, 1, 2, 3, 3, 2), list(2), true, true, false, false, list(0, 2), list(2, 3)}, {of(4, 0, 1, 2, 3, 3, 2), nil, true, true, false, false, list(0), nil},
		// the greatest graphs
		{of(40), nil, true, true, false, false, all(40), nil}, {of(40), all(40), true, true, true, true, all(40), all(40)}, {of(40), all(39), true, true, false, false, all(40), all(39)}, {full(40), nil, true, true, true, false, nil, nil}, {full(40), list(39), false, false, false, false, all(40), all(40)}, {full(40), all(40), false, false, false, false, all(40), all(40)},
		{chain(40), even(40), true, true, true, true, even(40), all(40)}, {chain(40), odd(40), true, false, false, false, append(list(0), odd(40)[1:]...), all(40)[1:]}, {chain(40), list(0), true, true, false, false, list(0, 2), list(0, 1)}, {chain(40), list(37), true, false, false, false, list(0, 39), list(37, 38)}, {cycle(40), even(40), true, true, true, true, even(40), all(40)}, {cycle(40), odd(40), true, true, true, true, odd(40), all(40)},
		{cycle(40), nil, true, true, true, false, nil, nil}, {cycle(40), list(39), true, false, false, false, list(1), list(0, 39)}, {graph.Reverse(chain(40)), odd(40), true, true, true, true, odd(40), all(40)}, {graph.Reverse(chain(40)), list(39), true, true, false, false, list(37, 39), list(38, 39)},
		{where(40, func(from, to int) bool { return from != to }), list(39), true, true, true, true, list(39), all(40)}, {where(40, func(from, to int) bool { return from == 39 && to < 39 }), list(39), true, true, true, true, list(39), all(40)}, {where(40, func(from, to int) bool { return to == 39 && from < 39 }), all(39), true, true, true, true, all(39), all(40)},
		// the examples of the chapter
		{chain(3), nil, true, true, false, false, list(0), nil}, {chain(3), list(0), true, true, false, false, list(0, 2), list(0, 1)}, {chain(3), list(0, 2), true, true, true, true, list(0, 2), list(0, 1, 2)}, {of(3, 1, 2), list(0, 2), true, false, false, false, list(0, 1), list(0, 2)},
	} {
		checkFacts(t, x.g, x.set, facts{x.free, x.admissible, x.complete, x.stable, x.step, x.reach})
	}
}

func checkSlowFacts(t *testing.T, g api.Graph, set []int) {
	t.Helper()
	checkFacts(t, g, set, facts{slowFree(g, set), slowAdmissible(g, set), slowComplete(g, set), slowStable(g, set), slowStep(g, set), slowRange(g, set)})
}

func TestFactsAboutAllSetsOfSmallGraphs(t *testing.T) {
	for g := range graphsUpTo(3) {
		for _, set := range setsOf(g.N) {
			checkSlowFacts(t, g, set)
		}
	}
}

func TestFactsAboutRandomSets(t *testing.T) {
	random := rand.New(rand.NewSource(131))
	for k := range 20000 {
		g := randomGraph(random, 9)
		if k%10 == 0 {
			g = randomGraph(random, api.MaxNodes)
		}
		checkSlowFacts(t, g, randomSet(random, g))
	}
}

// noSets are lists that are no sets of nodes of a graph with three nodes.
var noSets = [][]int{
	list(1, 0), list(0, 0), list(0, 1, 1), list(0, 2, 1), list(2, 1, 0), list(0, 2, 2), list(3), list(-1), list(0, 3), list(-1, 0), list(0, 1, 2, 3), list(64), list(0, 64), list(0, -64), list(math.MinInt), list(math.MaxInt),
	list(0, math.MaxInt), list(math.MinInt, 0), list(1 << 32), list(0, 1<<32+2), all(41), make([]int, 1<<20), all(1 << 20),
}

func TestListsThatAreNoSets(t *testing.T) {
	// Defends is asked about a node without attackers, too, which every set defends
	for _, g := range []api.Graph{of(3), chain(3), cycle(3), full(3)} {
		for i, l := range noSets {
			if Valid(g, l) || ConflictFree(g, l) || Admissible(g, l) || IsComplete(g, l) || IsStable(g, l) {
				t.Errorf("%v: list %d", g, i)
			}
			for node := -1; node < 4; node++ {
				if Defends(g, l, node) {
					t.Errorf("%v: list %d: defends %d", g, i, node)
				}
			}
			if step, reach := Step(g, l), Range(g, l); len(step)+len(reach) > 0 {
				t.Errorf("%v: list %d: %v, %v", g, i, step, reach)
			}
		}
	}
}

func TestNumbersThatAreNoNodesAreNotDefended(t *testing.T) {
	for _, g := range []api.Graph{of(0), of(3), chain(3), full(3), of(40), full(40), cycle(39)} {
		for _, set := range [][]int{nil, all(g.N), even(g.N), odd(g.N)} {
			for _, i := range []int{-1, -64, g.N, g.N + 1, 40, 41, 63, 64, 65, 1 << 32, 1<<32 + 1, math.MaxInt, math.MinInt} {
				if Defends(g, set, i) && (i < 0 || i >= g.N) {
					t.Errorf("%v: %v: defends %d", g, set, i)
				}
			}
		}
	}
}
