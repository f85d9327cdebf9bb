package grounded

import (
	"math"
	"math/rand"
	"slices"
	"testing"

	"deliberation/api"
	"deliberation/graph"
	"deliberation/labelling"
)

// P12.2

func TestChecksOfSomeProofs(t *testing.T) {
	pair, self, star := of(2, 0, 1, 1, 0), of(1, 0, 0), of(4, 0, 3, 1, 3, 2, 3)
	// the nodes 1 and 3 are Out by one attacker each, 4 is In after both, 5 to 7 are Undecided, and 3 attacks 6
	g := of(8, 0, 1, 1, 2, 1, 4, 2, 3, 3, 4, 3, 6, 5, 6, 6, 5, 6, 7)
	labels := list(in, out, in, out, in, und, und, und)
	for i, x := range []struct {
		g             api.Graph
		labels, ranks []int
		want          api.Errno
	}{
		{of(0), nil, nil, api.OK}, {of(0), list(), list(), api.OK}, {of(1), list(in), list(1), api.OK}, {self, list(und), list(0), api.OK}, {g, labels, list(1, 1, 2, 2, 3, 0, 0, 0), api.OK},
		// later ranks, with gaps, are a proof, too
		{of(1), list(in), list(7), api.OK}, {of(1), list(in), list(math.MaxInt), api.OK}, {of(2, 0, 1), list(in, out), list(1, 2), api.OK}, {of(2, 0, 1), list(in, out), list(5, math.MaxInt), api.OK}, {of(2, 0, 1), list(in, out), list(math.MaxInt, math.MaxInt), api.OK},
		{chain(3), list(in, out, in), list(9, 10, 11), api.OK}, {chain(3), list(in, out, in), list(9, 9, 10), api.OK}, {g, labels, list(1, 1, 100, 1000, 1001, 0, 0, 0), api.OK}, {g, labels, list(1, 5, 6, 6, 7, 0, 0, 0), api.OK},
		// the ranks of nodes that are Undecided are free
		{self, list(und), list(1), api.OK}, {self, list(und), list(math.MinInt), api.OK}, {pair, list(und, und), list(-1, math.MaxInt), api.OK}, {g, labels, list(1, 1, 2, 2, 3, 9, -9, math.MaxInt), api.OK}, {of(3, 0, 1, 1, 2, 2, 2), list(in, out, und), list(1, 1, -3), api.OK},
		// the rank of a node that is In
		{of(1), list(in), list(0), api.ErrProof}, {of(1), list(in), list(-1), api.ErrProof}, {of(1), list(in), list(math.MinInt), api.ErrProof}, {of(3), list(in, in, in), list(1, 0, 1), api.ErrProof}, {of(3), list(in, in, in), list(1, 1, 0), api.ErrProof},
		{chain(3), list(in, out, in), list(1, 1, 0), api.ErrProof}, {g, labels, list(1, 1, 2, 2, -3, 0, 0, 0), api.ErrProof},
		// the attackers of a node that is In: each one counts
		{chain(3), list(in, out, in), list(1, 1, 1), api.ErrProof}, {chain(3), list(in, out, in), list(1, 2, 1), api.ErrProof}, {chain(3), list(in, out, in), list(1, math.MaxInt, math.MaxInt), api.ErrProof}, {chain(3), list(in, out, in), list(1, 2, math.MinInt), api.ErrProof},
		{g, labels, list(1, 1, 2, 2, 2, 0, 0, 0), api.ErrProof}, {g, labels, list(1, 3, 4, 4, 4, 0, 0, 0), api.ErrProof}, {g, labels, list(1, 2, 3, 3, 3, 0, 0, 0), api.ErrProof}, {g, labels, list(1, 1, 1, 2, 3, 0, 0, 0), api.ErrProof},
		{of(4, 0, 1, 0, 2, 1, 3, 2, 3), list(in, out, out, in), list(1, 2, 1, 2), api.ErrProof}, {of(4, 0, 1, 0, 2, 1, 3, 2, 3), list(in, out, out, in), list(1, 1, 2, 2), api.ErrProof}, {of(4, 0, 1, 0, 2, 1, 3, 2, 3), list(in, out, out, in), list(1, 2, 2, 3), api.OK},
		// the attackers of a node that is Out: one of them is enough
		{of(2, 0, 1), list(in, out), list(1, 0), api.ErrProof}, {of(2, 0, 1), list(in, out), list(2, 1), api.ErrProof}, {of(2, 0, 1), list(in, out), list(math.MaxInt, math.MinInt), api.ErrProof}, {of(2, 0, 1), list(in, out), list(0, 0), api.ErrProof}, {of(2, 0, 1), list(in, out), list(0, 1), api.ErrProof},
		{star, list(in, in, in, out), list(1, 9, 9, 1), api.OK}, {star, list(in, in, in, out), list(9, 1, 9, 1), api.OK}, {star, list(in, in, in, out), list(9, 9, 1, 1), api.OK}, {star, list(in, in, in, out), list(2, 3, 4, 1), api.ErrProof}, {star, list(in, in, in, out), list(2, 3, 4, 2), api.OK},
		{star, list(in, in, in, out), list(0, 1, 1, 1), api.ErrProof}, {star, list(in, in, in, out), list(1, 1, 1, -1), api.ErrProof}, {chain(4), list(in, out, in, out), list(1, 1, 2, 1), api.ErrProof}, {chain(4), list(in, out, in, out), list(1, 1, 2, 2), api.OK},
		// an attacker that is not In does not count, whatever its rank is
		{of(4, 0, 1, 1, 2, 1, 3, 2, 3), list(in, out, in, out), list(1, 1, 2, 1), api.ErrProof}, {of(4, 0, 1, 1, 1, 2, 1, 2, 2), list(in, out, und, in), list(2, 1, 1, 1), api.ErrProof}, {of(3, 0, 1, 2, 1, 2, 2), list(in, out, und), list(2, 1, 1), api.ErrProof}, {of(2, 0, 1, 1, 1), list(in, out), list(2, 1), api.ErrProof},
		// complete labellings that are not the grounded one
		{pair, list(in, out), list(1, 1), api.ErrProof}, {pair, list(in, out), list(1, 2), api.ErrProof}, {pair, list(in, out), list(2, 1), api.ErrProof}, {pair, list(out, in), list(1, 1), api.ErrProof}, {pair, list(out, in), list(2, 1), api.ErrProof}, {pair, list(in, out), list(0, 0), api.ErrProof},
		{pair, list(in, out), list(1, math.MinInt), api.ErrProof}, {pair, list(in, out), list(math.MinInt, math.MaxInt), api.ErrProof}, {cycle(4), list(in, out, in, out), list(1, 1, 2, 2), api.ErrProof}, {cycle(4), list(out, in, out, in), list(2, 1, 1, 2), api.ErrProof},
		{cycle(40), each(40, func(i int) int { return in + i%2 }), each(40, func(i int) int { return 1 + i/2 }), api.ErrProof}, {cycle(40), same(40, und), same(40, 0), api.OK}, {cycle(40), same(40, und), same(40, 5), api.OK},
		// labellings that are not complete
		{of(1), list(out), list(1), api.ErrState}, {of(1), list(und), list(0), api.ErrState}, {self, list(in), list(1), api.ErrState}, {self, list(out), list(1), api.ErrState}, {chain(3), list(in, out, und), list(1, 1, 0), api.ErrState}, {chain(3), list(und, und, und), list(0, 0, 0), api.ErrState},
		{chain(3), list(in, in, in), list(1, 1, 1), api.ErrState}, {pair, list(in, in), list(1, 1), api.ErrState}, {pair, list(out, out), list(1, 1), api.ErrState}, {pair, list(in, und), list(1, 0), api.ErrState}, {g, list(in, out, in, out, und, und, und, und), list(1, 1, 2, 2, 0, 0, 0, 0), api.ErrState},
		// lists that are no labellings, and other numbers of ranks
		{of(1), list(0), list(1), api.ErrKind}, {of(1), list(4), list(1), api.ErrKind}, {of(1), list(-1), list(1), api.ErrKind}, {of(1), list(1<<32 + in), list(1), api.ErrKind}, {self, list(math.MinInt), list(0), api.ErrKind}, {self, list(math.MaxInt), list(0), api.ErrKind}, {g, append(labels[:7:7], 0), list(1, 1, 2, 2, 3, 0, 0, 0), api.ErrKind},
		{of(1), nil, list(1), api.ErrKind}, {of(1), list(in, in), list(1), api.ErrKind}, {of(0), list(in), nil, api.ErrKind}, {of(0), nil, list(1), api.ErrKind}, {of(1), list(in), nil, api.ErrKind}, {of(1), list(in), list(1, 1), api.ErrKind}, {of(1), nil, nil, api.ErrKind},
		{g, labels, list(1, 1, 2, 2, 3, 0, 0), api.ErrKind}, {g, labels, list(1, 1, 2, 2, 3, 0, 0, 0, 0), api.ErrKind}, {g, labels[:7], list(1, 1, 2, 2, 3, 0, 0, 0), api.ErrKind}, {self, list(und), nil, api.ErrKind}, {self, list(und), same(1<<20, 0), api.ErrKind}, {self, same(1<<20, und), list(0), api.ErrKind},
		// of several errors, the first one: the graph, the lists, the labels, the ranks
		{of(41), nil, nil, api.ErrRange}, {of(-1), list(9), list(9), api.ErrRange}, {of(2, 1, 0, 0, 1), list(in, in), list(0), api.ErrRange}, {of(2, 0, 2), list(in, out), list(1, 1), api.ErrRange}, {of(2, 0, 1, 0, 1), list(in, out), list(1, 1), api.ErrRange},
		{chain(3), list(in, in, 0), list(0, 0, 0), api.ErrKind}, {chain(3), list(in, in, in), list(1, 1), api.ErrKind}, {chain(3), list(und, und, und), nil, api.ErrKind}, {of(1), list(in), list(0, 0), api.ErrKind}, {pair, list(in, out), list(1), api.ErrKind},
		{of(2), list(in, out), list(0, 1), api.ErrState}, {chain(3), list(in, out, out), list(-1, -1, -1), api.ErrState}, {pair, list(in, in), list(0, 0), api.ErrState},
	} {
		if err := Check(x.g, x.labels, x.ranks); err != x.want {
			t.Errorf("proof %d: %v: %v, %v: %d instead of %d", i, x.g, x.labels, x.ranks, err, x.want)
		}
	}
}

func TestChecksForGraphsThatAreNotValid(t *testing.T) {
	for i, g := range faulty {
		for _, l := range [][]int{nil, list(in), list(in, out, in), list(und, und, und), list(0, 9), same(40, in), same(41, und), same(64, 1)} {
			if err := Check(g, l, l); err != api.ErrRange {
				t.Errorf("graph %d: %v: %d", i, l, err)
			}
		}
	}
}

// slowCheck takes the sentence of P12.2 at its word.
func slowCheck(g api.Graph, labels, ranks []int) api.Errno {
	if graph.Validate(g) != api.OK {
		return api.ErrRange
	}
	if !labelling.Valid(g, labels) || len(ranks) != g.N {
		return api.ErrKind
	}
	if !labelling.IsComplete(g, labels) {
		return api.ErrState
	}
	for i := range g.N {
		attackers := graph.Attackers(g, i)
		notLess := func(k int) bool { return ranks[k] >= ranks[i] }
		defeats := func(k int) bool { return labels[k] == in && ranks[k] >= 1 && ranks[k] <= ranks[i] }
		if labels[i] == in && (ranks[i] < 1 || slices.ContainsFunc(attackers, notLess)) {
			return api.ErrProof
		}
		if labels[i] == out && !slices.ContainsFunc(attackers, defeats) {
			return api.ErrProof
		}
	}
	return api.OK
}

// checkProof compares Check with the chapter, and tells whether the ranks prove the labels; only those of the grounded labelling can be proved.
func checkProof(t *testing.T, g api.Graph, labels, ranks []int) bool {
	t.Helper()
	want := slowCheck(g, labels, ranks)
	if err := Check(g, labels, ranks); err != want {
		t.Fatalf("%v: %v, %v: %d instead of %d", g, labels, ranks, err, want)
	}
	if want == api.OK && !slices.Equal(labels, Label(g)) {
		t.Fatalf("%v: %v, %v: proved, but not the grounded labelling", g, labels, ranks)
	}
	return want == api.OK
}

func TestChecksOfAllProofsOfSmallGraphs(t *testing.T) {
	for g := range graphsUpTo(3) {
		all := lists(g.N, 0, 1, 2, 3, -1)
		for _, labels := range lists(g.N, in, out, und, 0) {
			if !labelling.IsComplete(g, labels) {
				checkProof(t, g, labels, same(g.N, 1))
				continue
			}
			for _, ranks := range all {
				checkProof(t, g, labels, ranks)
			}
		}
	}
}

// later returns ranks that come from others by putting a number of empty rounds before each one.
func later(random *rand.Rand, ranks []int) []int {
	start := each(slices.Max(append(slices.Clone(ranks), 0))+1, func(i int) int { return i })
	for i := 1; i < len(start); i++ {
		start[i] = start[i-1] + 1 + random.Intn(3)
	}
	return each(len(ranks), func(i int) int { return start[ranks[i]] })
}

func TestChecksOfRandomProofs(t *testing.T) {
	random := rand.New(rand.NewSource(124))
	proved := 0
	for range 20000 {
		g := randomGraph(random, 12)
		labels, ranks := Label(g), Ranks(g)
		checkProof(t, g, labels, ranks)
		ranks = later(random, ranks)
		if !checkProof(t, g, labels, ranks) {
			t.Fatalf("%v: %v, %v: later rounds", g, labels, ranks)
		}
		if g.N == 0 {
			continue
		}
		for range 1 + random.Intn(3) {
			ranks[random.Intn(g.N)] += random.Intn(7) - 3
		}
		if checkProof(t, g, labels, ranks) {
			proved++
		}
		labels[random.Intn(g.N)] = in + random.Intn(3)
		checkProof(t, g, labels, ranks)
	}
	if proved < 4000 || proved > 16000 {
		t.Errorf("%d changed proofs hold", proved)
	}
}

// A consequence.

func TestNoRanksProveAnotherCompleteLabelling(t *testing.T) {
	random := rand.New(rand.NewSource(125))
	others := 0
	for range 1000 {
		g := where(6, func(from, to int) bool { return from != to && random.Intn(5) == 0 })
		for _, labels := range completeLabellings(g) {
			if slices.Equal(labels, Label(g)) {
				continue
			}
			others++
			for range 50 {
				checkProof(t, g, labels, each(g.N, func(int) int { return 1 + random.Intn(g.N) }))
			}
			checkProof(t, g, labels, Ranks(g))
		}
	}
	if others < 300 {
		t.Errorf("%d other labellings only", others)
	}
}
