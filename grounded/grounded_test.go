package grounded

import (
	"math"
	"math/rand"
	"slices"
	"testing"

	"deliberation/api"
	"deliberation/graph"
	"deliberation/labelling"
)

// The labels.
const (
	in  = api.In
	out = api.Out
	und = api.Undecided
)

func list(x ...int) []int { return x }

// of returns the graph with n nodes and attacks from pairs of numbers.
func of(n int, numbers ...int) api.Graph {
	g := api.Graph{N: n}
	for k := 0; k < len(numbers); k += 2 {
		g.L = append(g.L, api.Pair{From: numbers[k], To: numbers[k+1]})
	}
	return g
}

// where returns the graph with n nodes and the attacks for which a condition holds.
func where(n int, attacks func(from, to int) bool) api.Graph {
	g := api.Graph{N: n}
	for from := range n {
		for to := range n {
			if attacks(from, to) {
				g.L = append(g.L, api.Pair{From: from, To: to})
			}
		}
	}
	return g
}

func full(n int) api.Graph  { return where(n, func(int, int) bool { return true }) }
func cycle(n int) api.Graph { return where(n, func(from, to int) bool { return to == (from+1)%n }) }
func chain(n int) api.Graph { return where(n, func(from, to int) bool { return to == from+1 }) }

// each returns the list of the values of a function for 0 to n-1.
func each(n int, value func(i int) int) []int {
	l := make([]int, n)
	for i := range l {
		l[i] = value(i)
	}
	return l
}

func same(n, x int) []int { return each(n, func(int) int { return x }) }

// graphsUpTo returns all graphs with at most n nodes.
func graphsUpTo(n int) func(yield func(api.Graph) bool) {
	return func(yield func(api.Graph) bool) {
		for size := range n + 1 {
			for set := range 1 << (size * size) {
				if !yield(where(size, func(from, to int) bool { return set>>(size*from+to)&1 == 1 })) {
					return
				}
			}
		}
	}
}

// randomGraph returns a random graph with at most n nodes: with few attacks or with many, and often with long ways on which nodes become In and Out.
func randomGraph(random *rand.Rand, n int) api.Graph {
	n = random.Intn(n + 1)
	forward := []float64{0.5, 1, 1.5, 2, float64(n) / 2}[random.Intn(5)] // attacks by a node, on average
	back := []float64{0, 0.02, 0.1, 1}[random.Intn(4)] * forward
	place := random.Perm(n)
	return where(n, func(from, to int) bool {
		attacks := forward
		if place[from] >= place[to] {
			attacks = back
		}
		return random.Float64()*float64(n) < attacks
	})
}

// lists returns all lists of n of the given elements.
func lists(n int, elements ...int) [][]int {
	all := [][]int{{}}
	for range n {
		var longer [][]int
		for _, l := range all {
			for _, x := range elements {
				longer = append(longer, append(slices.Clone(l), x))
			}
		}
		all = longer
	}
	return all
}

// completeLabellings returns all complete labellings of a small graph.
func completeLabellings(g api.Graph) [][]int {
	var found [][]int
	for _, l := range lists(g.N, in, out, und) {
		if labelling.IsComplete(g, l) {
			found = append(found, l)
		}
	}
	return found
}

// P12.1

func TestLabelsAndRanksOfSomeGraphs(t *testing.T) {
	for i, x := range []struct {
		g             api.Graph
		labels, ranks []int
	}{
		// without attacks, and the node itself
		{of(0), nil, nil}, {of(1), list(in), list(1)}, {of(3), list(in, in, in), list(1, 1, 1)}, {of(1, 0, 0), list(und), list(0)}, {of(2, 0, 0, 0, 1), list(und, und), list(0, 0)}, {of(2, 0, 1, 1, 1), list(in, out), list(1, 1)},
		{of(3, 0, 1, 1, 1, 1, 2), list(in, out, in), list(1, 1, 2)}, {of(3, 0, 1, 1, 2, 2, 2), list(in, out, und), list(1, 1, 0)}, {of(4, 0, 1, 1, 2, 2, 3, 3, 3), list(in, out, in, out), list(1, 1, 2, 2)},
		// a node becomes Out in the round of an attacker, and in the first one that it can
		{of(2, 0, 1), list(in, out), list(1, 1)}, {of(2, 1, 0), list(out, in), list(1, 1)}, {of(4, 1, 3), list(in, in, in, out), list(1, 1, 1, 1)}, {of(3, 0, 2, 1, 2), list(in, in, out), list(1, 1, 1)},
		{of(4, 0, 1, 0, 3, 1, 2, 2, 3), list(in, out, in, out), list(1, 1, 2, 1)}, {of(4, 1, 0, 2, 1, 3, 0, 3, 2), list(out, in, out, in), list(1, 2, 1, 1)}, {of(5, 0, 1, 1, 2, 2, 3, 4, 3), list(in, out, in, out, in), list(1, 1, 2, 1, 1)},
		{of(5, 0, 1, 1, 2, 1, 3, 2, 3, 4, 3, 4, 4), list(in, out, in, out, und), list(1, 1, 2, 2, 0)},
		// a node becomes In one round after the last one of its attackers became Out
		{of(4, 0, 1, 0, 2, 1, 3, 2, 3), list(in, out, out, in), list(1, 1, 1, 2)}, {of(5, 0, 1, 1, 2, 1, 4, 2, 3, 3, 4), list(in, out, in, out, in), list(1, 1, 2, 2, 3)}, {of(5, 1, 0, 2, 1, 3, 0, 3, 2, 4, 3), list(in, out, in, out, in), list(3, 2, 2, 1, 1)},
		// an attacker that is Undecided keeps it from both
		{of(4, 0, 1, 1, 2, 3, 2, 3, 3), list(in, out, und, und), list(1, 1, 0, 0)}, {of(4, 0, 1, 1, 2, 2, 3, 3, 2), list(in, out, und, und), list(1, 1, 0, 0)}, {of(4, 0, 1, 1, 0, 2, 0, 3, 2), list(und, und, out, in), list(0, 0, 1, 1)},
		{of(4, 0, 1, 1, 0, 1, 2, 2, 3), list(und, und, und, und), list(0, 0, 0, 0)},
		// cycles, and cycles that are broken from outside
		{cycle(3), list(und, und, und), list(0, 0, 0)}, {cycle(4), list(und, und, und, und), list(0, 0, 0, 0)}, {of(3, 0, 1, 1, 2, 2, 1), list(in, out, in), list(1, 1, 2)}, {of(3, 0, 1, 1, 0, 2, 0), list(out, in, in), list(1, 2, 1)},
		{of(4, 0, 1, 1, 2, 2, 0, 3, 1), list(out, out, in, in), list(2, 1, 2, 1)}, {of(5, 0, 1, 1, 2, 2, 3, 3, 0, 4, 2), list(out, in, out, in, in), list(2, 3, 1, 2, 1)},
		// the greatest graphs
		{of(40), same(40, in), same(40, 1)}, {full(40), same(40, und), same(40, 0)}, {cycle(40), same(40, und), same(40, 0)},
		{chain(40), each(40, func(i int) int { return in + i%2 }), each(40, func(i int) int { return 1 + i/2 })}, {chain(39), each(39, func(i int) int { return in + i%2 }), each(39, func(i int) int { return 1 + i/2 })},
		{graph.Reverse(chain(40)), each(40, func(i int) int { return out - i%2 }), each(40, func(i int) int { return 20 - i/2 })},
		{where(40, func(from, to int) bool { return from < to }), append(list(in), same(39, out)...), same(40, 1)}, {where(40, func(from, to int) bool { return from > to }), append(same(39, out), in), same(40, 1)},
		{where(40, func(from, to int) bool { return to == 0 && from > 0 }), append(list(out), same(39, in)...), same(40, 1)}, {where(40, func(from, to int) bool { return to > 0 }), append(list(in), same(39, out)...), same(40, 1)},
		// the examples of the chapter
		{chain(3), list(in, out, in), list(1, 1, 2)}, {of(2, 0, 1, 1, 0), list(und, und), list(0, 0)}, {of(3, 0, 1, 0, 2, 1, 0, 1, 2), list(und, und, und), list(0, 0, 0)},
	} {
		if got := Label(x.g); !slices.Equal(got, x.labels) {
			t.Errorf("graph %d: labels %v instead of %v", i, got, x.labels)
		}
		if got := Ranks(x.g); !slices.Equal(got, x.ranks) {
			t.Errorf("graph %d: ranks %v instead of %v", i, got, x.ranks)
		}
		if err := Check(x.g, x.labels, x.ranks); err != api.OK {
			t.Errorf("graph %d: the proof: %d", i, err)
		}
	}
}

// slowRounds takes the definition of the chapter at its word.
func slowRounds(g api.Graph) (labels, ranks []int) {
	labels, ranks = same(g.N, und), same(g.N, 0)
	for round := 1; ; round++ {
		before := slices.Clone(labels)
		for i := range g.N {
			if before[i] == und && !slices.ContainsFunc(graph.Attackers(g, i), func(k int) bool { return before[k] != out }) {
				labels[i], ranks[i] = in, round
			}
		}
		for i := range g.N {
			if labels[i] == und && slices.ContainsFunc(graph.Attackers(g, i), func(k int) bool { return labels[k] == in && before[k] == und }) {
				labels[i], ranks[i] = out, round
			}
		}
		if slices.Equal(before, labels) {
			return labels, ranks
		}
	}
}

func checkRounds(t *testing.T, g api.Graph) {
	t.Helper()
	labels, ranks := slowRounds(g)
	if got := Label(g); !slices.Equal(got, labels) {
		t.Fatalf("%v: labels %v instead of %v", g, got, labels)
	}
	if got := Ranks(g); !slices.Equal(got, ranks) {
		t.Fatalf("%v: ranks %v instead of %v", g, got, ranks)
	}
	if err := Check(g, labels, ranks); err != api.OK {
		t.Fatalf("%v: the proof: %d", g, err)
	}
}

func TestRoundsOfAllSmallGraphs(t *testing.T) {
	for g := range graphsUpTo(4) {
		checkRounds(t, g)
	}
}

func TestRoundsOfRandomGraphs(t *testing.T) {
	random := rand.New(rand.NewSource(121))
	last := 0
	for k := range 20000 {
		g := randomGraph(random, 9)
		if k%10 == 0 {
			g = randomGraph(random, api.MaxNodes)
		}
		checkRounds(t, g)
		last = max(last, slices.Max(append(Ranks(g), 0)))
	}
	if last < 8 {
		t.Errorf("%d rounds at the most", last)
	}
}

// The consequences.

func TestTheGroundedLabellingIsTheLeastCompleteOne(t *testing.T) {
	check := func(g api.Graph) {
		t.Helper()
		labels := Label(g)
		if !labelling.IsComplete(g, labels) {
			t.Fatalf("%v: %v is not complete", g, labels)
		}
		for _, l := range completeLabellings(g) {
			if !labelling.LessCommitted(labels, l) {
				t.Fatalf("%v: %v is not less committed than %v", g, labels, l)
			}
		}
	}
	for g := range graphsUpTo(3) {
		check(g)
	}
	random := rand.New(rand.NewSource(122))
	for range 500 {
		check(randomGraph(random, 6))
	}
}

func TestALabelDependsOnTheNodesThatReachIt(t *testing.T) {
	random := rand.New(rand.NewSource(123))
	for range 1000 {
		g := randomGraph(random, 20)
		labels, ranks := Label(g), Ranks(g)
		for i := range g.N {
			before := graph.Reach(graph.Reverse(g), i)
			part, place := graph.Induced(g, before), slices.Index(before, i)
			if Label(part)[place] != labels[i] || Ranks(part)[place] != ranks[i] {
				t.Fatalf("%v: node %d: %d, %d in the whole, %d, %d in the part", g, i, labels[i], ranks[i], Label(part)[place], Ranks(part)[place])
			}
		}
	}
}

// R1, R2, R7

// faulty are graphs that are not valid.
var faulty = []api.Graph{
	of(-1), of(41), of(64), of(1 << 32), of(1<<32 + 3), of(math.MaxInt), of(math.MinInt), of(math.MaxInt, 0, 1), of(-1, 0, 0), of(0, 0, 0), of(3, 0, 3), of(3, 3, 0), of(3, -1, 0), of(3, 0, -1),
	of(3, math.MinInt, math.MaxInt), of(3, 1<<32, 1), of(2, 1, 0, 0, 1), of(3, 0, 1, 0, 1), of(3, 0, 1, 1, 2, 2, 99), of(41, 40, 40), of(40, 39, 40), of(3, 0, 1, 1, 2, 1, 1),
}

func TestGraphsThatAreNotValid(t *testing.T) {
	for i, g := range faulty {
		// nothing is specified, but that the functions come back
		if labels, ranks := Label(g), Ranks(g); len(labels) > api.MaxNodes+1 || len(ranks) > api.MaxNodes+1 {
			t.Errorf("graph %d: %v, %v", i, labels, ranks)
		}
	}
}

func overwrite(l []int) {
	for k := range l[:cap(l)] {
		l[:cap(l)][k] = 77
	}
}

func TestTheFunctionsLeaveTheirArguments(t *testing.T) {
	whole := of(5, 0, 1, 1, 2, 2, 3, 4, 4, 9, 9)
	g := api.Graph{N: whole.N, L: whole.L[:4]}
	labels, ranks := list(in, out, in, out, und, 9, 9), list(1, 1, 2, 2, 0, 9, 9)
	attacks, labels0, ranks0 := slices.Clone(whole.L), slices.Clone(labels), slices.Clone(ranks)
	for range 2 {
		if err := Check(g, labels[:5], ranks[:5]); err != api.OK {
			t.Errorf("the proof: %d", err)
		}
		first, other := Label(g), Ranks(g)
		if !slices.Equal(first, labels[:5]) || !slices.Equal(other, ranks[:5]) {
			t.Errorf("%v, %v", first, other)
		}
		overwrite(first)
		if !slices.Equal(other, ranks[:5]) {
			t.Error("the labels and the ranks share memory")
		}
		overwrite(other)
	}
	if !slices.Equal(whole.L, attacks) || !slices.Equal(labels, labels0) || !slices.Equal(ranks, ranks0) {
		t.Errorf("changed: %v, %v, %v", whole.L, labels, ranks)
	}
}
