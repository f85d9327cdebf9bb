package labelling

import (
	"math"
	"math/rand"
	"slices"
	"testing"

	"deliberation/api"
	"deliberation/graph"
)

// The labels.
const (
	in  = api.In
	out = api.Out
	und = api.Undecided
)

func list(x ...int) []int { return x }

// of returns the graph with n nodes and attacks from pairs of numbers.
func of(n int, numbers ...int) api.Graph {
	g := api.Graph{N: n}
	for k := 0; k < len(numbers); k += 2 {
		g.L = append(g.L, api.Pair{From: numbers[k], To: numbers[k+1]})
	}
	return g
}

// where returns the graph with n nodes and the attacks for which a condition holds.
func where(n int, attacks func(from, to int) bool) api.Graph {
	g := api.Graph{N: n}
	for from := range n {
		for to := range n {
			if attacks(from, to) {
				g.L = append(g.L, api.Pair{From: from, To: to})
			}
		}
	}
	return g
}

func full(n int) api.Graph  { return where(n, func(int, int) bool { return true }) }
func cycle(n int) api.Graph { return where(n, func(from, to int) bool { return to == (from+1)%n }) }
func chain(n int) api.Graph { return where(n, func(from, to int) bool { return to == from+1 }) }

// pattern returns the list of n elements that repeats the given ones.
func pattern(n int, elements ...int) []int {
	l := make([]int, n)
	for i := range l {
		l[i] = elements[i%len(elements)]
	}
	return l
}

// smallGraphs returns all graphs with at most three nodes.
func smallGraphs(yield func(api.Graph) bool) {
	for n := range 4 {
		for set := range 1 << (n * n) {
			if !yield(where(n, func(from, to int) bool { return set>>(n*from+to)&1 == 1 })) {
				return
			}
		}
	}
}

// lists returns all lists of n of the given elements, in lexicographic order if these are ascending.
func lists(n int, elements ...int) [][]int {
	all := [][]int{{}}
	for range n {
		var longer [][]int
		for _, l := range all {
			for _, x := range elements {
				longer = append(longer, append(slices.Clone(l), x))
			}
		}
		all = longer
	}
	return all
}

func labellings(n int) [][]int { return lists(n, in, out, und) }

// randomGraph returns a random graph of any size, with few attacks or with many.
func randomGraph(random *rand.Rand) api.Graph {
	n := random.Intn(9)
	if random.Intn(8) == 0 {
		n = random.Intn(api.MaxNodes + 1)
	}
	each := []float64{0.3, 0.7, 1, 1.3, 2, float64(n) / 2}[random.Intn(6)] // attacks by a node, on average
	return where(n, func(from, to int) bool { return random.Float64()*float64(n) < each })
}

// randomList returns a random list of n of the given elements.
func randomList(random *rand.Rand, n int, elements ...int) []int {
	l := make([]int, n)
	for i := range l {
		l[i] = elements[random.Intn(len(elements))]
	}
	return l
}

// noLabels are numbers that are not labels.
var noLabels = []int{0, 4, -1, -2, -3, 5, 7, 8, 1<<8 + 1, 1<<32 + 1, 1<<32 + 2, 1<<32 + 3, math.MaxInt, math.MinInt, math.MinInt + 1}

// noNodes are numbers that are not nodes of any graph.
var noNodes = []int{-1, -2, api.MaxNodes, api.MaxNodes + 1, 63, 64, 65, 128, 1 << 32, 1<<32 + 1, math.MaxInt, math.MinInt, math.MinInt + 1}

// P11.1

func TestListsThatAreLabellings(t *testing.T) {
	for i, x := range []struct {
		g api.Graph
		l []int
	}{
		{of(0), nil}, {of(0), list()}, {of(1), list(in)}, {of(1), list(out)}, {of(1), list(und)}, {of(1, 0, 0), list(in)}, {of(2, 0, 1), list(in, in)},
		{of(3), list(in, out, und)}, {chain(3), list(out, out, out)}, {full(40), pattern(40, in, und, out)}, {of(40), pattern(40, und)},
	} {
		if !Valid(x.g, x.l) {
			t.Errorf("list %d is no labelling", i)
		}
	}
}

func TestListsThatAreNoLabellings(t *testing.T) {
	type test struct {
		g api.Graph
		l []int
	}
	tests := []test{
		// another length
		{of(0), list(in)}, {of(0), list(und)}, {of(1), nil}, {of(1), list(in, in)}, {of(1, 0, 0), list(und, und)}, {chain(3), list(in, out)}, {chain(3), list(in, out, in, out)},
		{chain(3), list()}, {of(40), pattern(39, in)}, {of(40), pattern(41, in)}, {full(40), pattern(80, und)},
		// another length and another element
		{of(0), list(0)}, {of(2), list(0)}, {of(1), list(in, 0)}, {chain(3), list(in, out, in, 4)},
	}
	for _, x := range noLabels {
		tests = append(tests, test{of(1), list(x)}, test{of(1, 0, 0), list(x)}, test{chain(3), list(x, out, in)}, test{chain(3), list(in, x, in)}, test{chain(3), list(in, out, x)})
	}
	for _, x := range tests {
		if Valid(x.g, x.l) || IsComplete(x.g, x.l) {
			t.Errorf("%v: %v is a labelling", x.g, x.l)
		}
		if nodes := Illegal(x.g, x.l); len(nodes) > 0 {
			t.Errorf("%v: %v: illegal nodes %v", x.g, x.l, nodes)
		}
	}
}

func TestIllegalNodesOfSomeLabellings(t *testing.T) {
	self, pair := of(1, 0, 0), of(2, 0, 1, 1, 0)
	star := of(4, 0, 3, 1, 3, 2, 3) // the last node has three attackers
	for _, x := range []struct {
		g    api.Graph
		l    []int
		want []int
	}{
		{of(0), nil, nil}, {of(0), list(), nil},
		// without attackers, only In is legal
		{of(1), list(in), nil}, {of(1), list(out), list(0)}, {of(1), list(und), list(0)}, {of(4), list(und, in, out, und), list(0, 2, 3)}, {of(2, 0, 1), list(out, in), list(0)},
		// one attacker
		{of(2, 0, 1), list(in, out), nil}, {of(2, 0, 1), list(in, in), list(1)}, {of(2, 0, 1), list(in, und), list(1)}, {of(2, 0, 1), list(und, und), list(0)}, {of(2, 1, 0), list(out, in), nil},
		// the node itself
		{self, list(in), list(0)}, {self, list(out), list(0)}, {self, list(und), nil},
		{of(2, 0, 1, 1, 1), list(in, out), nil}, {of(2, 0, 1, 1, 1), list(in, und), list(1)}, {of(2, 0, 1, 1, 1), list(in, in), list(1)},
		{of(2, 0, 0, 0, 1), list(und, und), nil}, {of(2, 0, 0, 0, 1), list(und, in), list(1)}, {of(2, 0, 0, 0, 1), list(und, out), list(1)}, {of(2, 0, 0, 0, 1), list(out, in), list(0)},
		// two nodes that attack each other
		{pair, list(in, out), nil}, {pair, list(out, in), nil}, {pair, list(und, und), nil}, {pair, list(in, in), list(0, 1)}, {pair, list(out, out), list(0, 1)},
		{pair, list(in, und), list(0, 1)}, {pair, list(und, in), list(0, 1)}, {pair, list(out, und), list(0, 1)}, {pair, list(und, out), list(0, 1)},
		// several attackers: all Out
		{star, list(out, out, out, in), list(0, 1, 2)}, {star, list(out, out, out, out), list(0, 1, 2, 3)}, {star, list(out, out, out, und), list(0, 1, 2, 3)},
		// one of them In, at each place, whatever the others are
		{star, list(in, in, in, out), nil}, {star, list(in, out, out, out), list(1, 2)}, {star, list(out, in, out, out), list(0, 2)}, {star, list(out, und, in, out), list(0, 1)},
		{star, list(in, und, und, und), list(1, 2, 3)}, {star, list(und, und, in, und), list(0, 1, 3)}, {star, list(out, out, in, in), list(0, 1, 3)}, {star, list(in, in, in, in), list(3)},
		// none of them In, and not all Out
		{star, list(und, out, out, und), list(0, 1, 2)}, {star, list(out, out, und, und), list(0, 1, 2)}, {star, list(und, und, und, und), list(0, 1, 2)},
		{star, list(out, und, out, in), list(0, 1, 2, 3)}, {star, list(und, und, und, out), list(0, 1, 2, 3)}, {star, list(und, und, und, in), list(0, 1, 2, 3)},
		// the direction of an attack
		{chain(3), list(in, out, out), list(2)}, {chain(3), list(in, out, und), list(2)}, {chain(3), list(out, in, out), list(0)}, {chain(3), list(in, in, out), list(1)}, {chain(3), list(in, und, und), list(1)},
		// cycles
		{cycle(3), list(und, und, und), nil}, {cycle(3), list(in, out, und), list(0, 2)}, {cycle(3), list(in, out, in), list(0)}, {cycle(4), list(in, out, in, out), nil}, {cycle(4), list(in, out, out, in), list(0, 2)},
		// the greatest graphs
		{full(40), pattern(40, und), nil}, {cycle(40), pattern(40, in, out), nil}, {cycle(40), pattern(40, out, in), nil}, {chain(40), pattern(40, in, out), nil}, {of(40), pattern(40, in), nil},
		{of(40, 0, 39), append(pattern(39, in), out), nil}, {of(40, 39, 0), append(list(out), pattern(39, in)...), nil}, {of(40, 0, 39), pattern(40, in), list(39)}, {of(40, 39, 0), pattern(40, in), list(0)},
		// the examples of the chapter
		{chain(3), list(in, out, in), nil}, {chain(3), list(und, und, in), list(0, 2)},
	} {
		if got := Illegal(x.g, x.l); !slices.Equal(got, x.want) {
			t.Errorf("%v: %v: %v instead of %v", x.g, x.l, got, x.want)
		}
		if IsComplete(x.g, x.l) != (len(x.want) == 0) || !Valid(x.g, x.l) {
			t.Errorf("%v: %v: %v, %v", x.g, x.l, IsComplete(x.g, x.l), Valid(x.g, x.l))
		}
	}
}

// isLegal takes the sentence of the chapter at its word.
func isLegal(g api.Graph, l []int, i int) bool {
	attackers := graph.Attackers(g, i)
	someIn := slices.ContainsFunc(attackers, func(k int) bool { return l[k] == in })
	allOut := !slices.ContainsFunc(attackers, func(k int) bool { return l[k] != out })
	switch l[i] {
	case in:
		return allOut
	case out:
		return someIn
	}
	return !allOut && !someIn
}

func slowIllegal(g api.Graph, l []int) []int {
	var nodes []int
	for i := range g.N {
		if !isLegal(g, l, i) {
			nodes = append(nodes, i)
		}
	}
	return nodes
}

func checkLegality(t *testing.T, g api.Graph, l []int) {
	t.Helper()
	want := slowIllegal(g, l)
	if got := Illegal(g, l); !slices.Equal(got, want) {
		t.Fatalf("%v: %v: %v instead of %v", g, l, got, want)
	}
	if IsComplete(g, l) != (len(want) == 0) || !Valid(g, l) {
		t.Fatalf("%v: %v: %v, %v", g, l, IsComplete(g, l), Valid(g, l))
	}
}

func TestLegalityInAllSmallGraphs(t *testing.T) {
	for g := range smallGraphs {
		for _, l := range labellings(g.N) {
			checkLegality(t, g, l)
		}
	}
}

func TestLegalityInRandomGraphs(t *testing.T) {
	random := rand.New(rand.NewSource(111))
	for range 20000 {
		g := randomGraph(random)
		checkLegality(t, g, randomList(random, g.N, in, out, und))
	}
}

// completed makes the first illegal node legal, again and again; this mostly ends with a complete labelling.
func completed(g api.Graph, l []int) []int {
	l = slices.Clone(l)
	for range 10 * g.N {
		nodes := slowIllegal(g, l)
		if len(nodes) == 0 {
			break
		}
		for label := in; label <= und; label++ {
			l[nodes[0]] = label
			if isLegal(g, l, nodes[0]) {
				break
			}
		}
	}
	return l
}

func TestCompleteLabellingsOfRandomGraphs(t *testing.T) {
	random := rand.New(rand.NewSource(112))
	found := 0
	for range 5000 {
		g := randomGraph(random)
		l := completed(g, randomList(random, g.N, in, out, und))
		checkLegality(t, g, l)
		if !IsComplete(g, l) || g.N == 0 {
			continue
		}
		found++
		i := random.Intn(g.N)
		l[i] = l[i]%3 + 1 // for each node exactly one label is legal, if the others keep theirs
		if IsComplete(g, l) {
			t.Fatalf("%v: %v is complete, too, with another label of %d", g, l, i)
		}
		checkLegality(t, g, l)
	}
	if found < 2000 {
		t.Errorf("%d complete labellings only", found)
	}
}

func TestCompleteLabellingsOfSomeGraphs(t *testing.T) {
	for i, x := range []struct {
		g    api.Graph
		want [][]int
	}{
		{of(0), [][]int{{}}}, {of(1), [][]int{{in}}}, {of(1, 0, 0), [][]int{{und}}}, {of(2, 0, 1, 1, 0), [][]int{{in, out}, {out, in}, {und, und}}}, {cycle(3), [][]int{{und, und, und}}},
		{cycle(4), [][]int{{in, out, in, out}, {out, in, out, in}, {und, und, und, und}}}, {of(3, 0, 1, 1, 0, 1, 2, 2, 2), [][]int{{in, out, und}, {out, in, out}, {und, und, und}}},
		{full(4), [][]int{{und, und, und, und}}}, {of(2, 0, 0, 1, 0), [][]int{{out, in}}}, {of(2, 0, 0, 0, 1), [][]int{{und, und}}},
		// the first example of the chapter
		{chain(3), [][]int{{in, out, in}}},
	} {
		var got [][]int
		for _, l := range labellings(x.g.N) {
			if IsComplete(x.g, l) {
				got = append(got, l)
			}
		}
		if !slices.EqualFunc(got, x.want, slices.Equal) {
			t.Errorf("graph %d: %v", i, got)
		}
	}
}
