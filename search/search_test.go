package search

import (
	"cmp"
	"math"
	"math/rand"
	"slices"
	"testing"

	"deliberation/admissible"
	"deliberation/api"
	"deliberation/graph"
	"deliberation/labelling"
)

const (
	in  = api.In
	out = api.Out
	und = api.Undecided
)

func list(x ...int) []int { return x }

// lists returns some lists.
func lists(x ...[]int) [][]int { return x }

// of returns the graph with n nodes and attacks from pairs of numbers.
func of(n int, numbers ...int) api.Graph {
	g := api.Graph{N: n}
	for k := 0; k < len(numbers); k += 2 {
		g.L = append(g.L, api.Pair{From: numbers[k], To: numbers[k+1]})
	}
	return g
}

// where returns the graph with n nodes and the attacks for which a condition holds.
func where(n int, attacks func(from, to int) bool) api.Graph {
	g := api.Graph{N: n}
	for from := range n {
		for to := range n {
			if attacks(from, to) {
				g.L = append(g.L, api.Pair{From: from, To: to})
			}
		}
	}
	return g
}

func full(n int) api.Graph   { return where(n, func(int, int) bool { return true }) }
func cycle(n int) api.Graph  { return where(n, func(from, to int) bool { return to == (from+1)%n }) }
func chain(n int) api.Graph  { return where(n, func(from, to int) bool { return to == from+1 }) }
func rivals(n int) api.Graph { return where(n, func(from, to int) bool { return from != to }) }
func tower(n int) api.Graph  { return where(n, func(from, to int) bool { return from < to }) }
func star(n int) api.Graph {
	return where(n, func(from, to int) bool { return (from == 0) != (to == 0) })
}
func halves(n int) api.Graph {
	return where(n, func(from, to int) bool { return (from < n/2) != (to < n/2) })
}

// pair: two nodes that attack each other. half: one of them attacks itself, too.
var pair, half = of(2, 0, 1, 1, 0), of(2, 0, 1, 1, 0, 1, 1)

// those returns the numbers below n for which a condition holds.
func those(n int, holds func(i int) bool) []int {
	var l []int
	for i := range n {
		if holds(i) {
			l = append(l, i)
		}
	}
	return l
}

func all(n int) []int  { return those(n, func(int) bool { return true }) }
func even(n int) []int { return those(n, func(i int) bool { return i%2 == 0 }) }
func odd(n int) []int  { return those(n, func(i int) bool { return i%2 == 1 }) }

// pattern returns n elements that repeat some numbers.
func pattern(n int, x ...int) []int {
	l := make([]int, n)
	for i := range l {
		l[i] = x[i%len(x)]
	}
	return l
}

// at returns n times one number, with another one at a place.
func at(n, place, x, others int) []int {
	l := pattern(n, others)
	l[place] = x
	return l
}

// join returns the graph of parts without attacks between them.
func join(parts ...api.Graph) api.Graph {
	var g api.Graph
	for _, part := range parts {
		for _, p := range part.L {
			g.L = append(g.L, api.Pair{From: g.N + p.From, To: g.N + p.To})
		}
		g.N += part.N
	}
	return g
}

func times(n int, part api.Graph) api.Graph { return join(slices.Repeat([]api.Graph{part}, n)...) }

// above returns a graph with one more node at the end, which attacks all others.
func above(g api.Graph) api.Graph {
	higher := api.Graph{N: g.N + 1, L: slices.Clone(g.L)}
	for i := range g.N {
		higher.L = append(higher.L, api.Pair{From: g.N, To: i})
	}
	return higher
}

// under returns a graph with two more nodes at the end, which attack each other, and of which the first one attacks all others.
func under(g api.Graph) api.Graph {
	lower := above(g)
	lower.L = append(lower.L, api.Pair{From: g.N, To: g.N + 1}, api.Pair{From: g.N + 1, To: g.N})
	lower.N++
	return lower
}

// renumbered returns a graph with a new number for each node.
func renumbered(g api.Graph, number []int) api.Graph {
	other := api.Graph{N: g.N}
	for _, p := range g.L {
		other.L = append(other.L, api.Pair{From: number[p.From], To: number[p.To]})
	}
	slices.SortFunc(other.L, func(a, b api.Pair) int { return cmp.Or(a.From-b.From, a.To-b.To) })
	return other
}

// seats is the question how so many guests take so many seats, one each. Each guest has a node for each seat, which attacks the other guests' nodes for this seat, and a node that attacks itself and all nodes of seats until the guest has one.
func seats(guests, places int) api.Graph {
	sitting := guests * places
	return where(sitting+guests, func(from, to int) bool {
		switch {
		case from >= sitting:
			return to < sitting || to == from
		case to >= sitting:
			return from/places == to-sitting
		}
		return from%places == to%places && from != to
	})
}

// graphsUpTo returns all graphs with at most n nodes.
func graphsUpTo(n int) func(yield func(api.Graph) bool) {
	return func(yield func(api.Graph) bool) {
		for size := range n + 1 {
			for set := range 1 << (size * size) {
				if !yield(where(size, func(from, to int) bool { return set>>(size*from+to)&1 == 1 })) {
					return
				}
			}
		}
	}
}

// setsOf returns all sets of the numbers below n.
func setsOf(n int) [][]int {
	var sets [][]int
	for bits := range 1 << n {
		sets = append(sets, those(n, func(i int) bool { return bits>>i&1 == 1 }))
	}
	return sets
}

// randomGraph returns a random graph with n nodes: with few attacks or with many, and with or without attacks on the attacker and on itself.
func randomGraph(random *rand.Rand, n int) api.Graph {
	attacks := []float64{0.3, 0.7, 1, 1.5, 2, 3, float64(n) / 3}[random.Intn(7)] // by a node, on average
	back := []float64{0, 0.3, 0.9}[random.Intn(3)]
	self := []float64{0, 0, 0.1, 0.4}[random.Intn(4)]
	chosen := make(map[api.Pair]bool)
	for from := range n {
		for to := range n {
			if from == to {
				chosen[api.Pair{From: from, To: to}] = random.Float64() < self
			} else if random.Float64()*float64(n) < attacks {
				chosen[api.Pair{From: from, To: to}] = true
				chosen[api.Pair{From: to, To: from}] = chosen[api.Pair{From: to, To: from}] || random.Float64() < back
			}
		}
	}
	return where(n, func(from, to int) bool { return chosen[api.Pair{From: from, To: to}] })
}

// kinds are the two functions.
var kinds = []struct {
	name string
	find func(api.Graph) ([][]int, api.Errno)
}{{"complete", Complete}, {"naive", Naive}}

func same(a, b [][]int) bool { return slices.EqualFunc(a, b, slices.Equal) }

// checkFound compares the result of a search with all that there is; more than MaxFound is too much.
func checkFound(t *testing.T, g api.Graph, got [][]int, err api.Errno, want [][]int) {
	t.Helper()
	if len(want) > api.MaxFound {
		if err != api.ErrLimit || len(got) > 0 {
			t.Fatalf("%v: %d, %d found instead of more than MaxFound", g, err, len(got))
		}
		return
	}
	if err != api.OK || !same(got, want) {
		t.Fatalf("%v: %d, %v instead of %v", g, err, got, want)
	}
}

// P14.1 and P14.2

func TestNumbersThatAreFound(t *testing.T) {
	five, three := rivals(4), under(times(2, of(1, 0, 0))) // complete labellings
	for i, x := range []struct {
		g               api.Graph
		complete, naive int // more than MaxFound stand for ErrLimit
	}{
		{of(0), 1, 1}, {of(40), 1, 1}, {times(40, of(1, 0, 0)), 1, 1}, {times(4, pair), 81, 16}, {times(5, pair), 243, 32}, {times(7, pair), 2187, 128}, {times(8, pair), 6561, 256}, {times(20, pair), 3486784401, 1 << 20}, {times(7, half), 128, 1}, {times(8, half), 256, 1}, {times(20, half), 1 << 20, 1}, {join(pair, times(6, half)), 192, 2}, {join(times(3, pair), times(3, half)), 216, 8},
		{times(20, of(2, 0, 1)), 1, 1 << 20}, {times(13, cycle(3)), 1, 1594323}, {times(4, cycle(3)), 1, 81}, {times(5, cycle(3)), 1, 243}, {times(10, cycle(4)), 59049, 1024}, {times(8, cycle(5)), 1, 390625}, {join(times(3, cycle(5)), of(25)), 1, 125}, {times(4, rivals(10)), 14641, 10000}, {times(2, rivals(13)), 196, 169}, {times(2, rivals(14)), 225, 196}, {times(2, rivals(15)), 256, 225},
		{rivals(40), 41, 40}, {tower(40), 1, 40}, {halves(40), 3, 2}, {star(40), 3, 2}, {three, 3, 2}, {join(three, three), 9, 4}, {join(rivals(8), cycle(5), of(2, 0, 1), of(3, 0, 1, 0, 2), of(1)), 9, 160},
		// MaxFound, and one more
		{join(five, five, half, half, half), 200, 16}, {join(five, five, half, half, half, of(26)), 200, 16}, {join(pair, under(join(five, under(under(join(pair, pair)))))), 201, 50}, {join(of(24), pair, under(join(five, under(under(join(pair, pair)))))), 201, 50},
		{join(rivals(5), rivals(5), times(3, pair)), 972, 200}, {above(join(rivals(5), rivals(5), times(3, pair))), 1, 201}, {join(times(2, cycle(5)), times(3, of(2, 0, 1))), 1, 200}, {above(join(times(2, cycle(5)), times(3, of(2, 0, 1)))), 1, 201}, {join(above(join(rivals(5), rivals(5), times(3, pair))), of(1, 0, 0)), 1, 201},
		// searches that must go back: more guests than seats, and as many
		{seats(2, 1), 1, 2}, {seats(4, 3), 1, 64}, {seats(5, 4), 1, 625}, {seats(6, 5), 1, 7776}, {seats(2, 2), 3, 4}, {seats(3, 3), 7, 27}, {seats(4, 4), 25, 256}, {seats(5, 5), 121, 3125}, {join(seats(5, 4), times(4, pair)), 81, 10000}, {join(times(4, pair), seats(5, 4)), 81, 10000}, {join(times(5, pair), seats(5, 4)), 243, 20000},
	} {
		for k, want := range []int{x.complete, x.naive} {
			found, err := kinds[k].find(x.g)
			if want <= api.MaxFound && (err != api.OK || len(found) != want) || want > api.MaxFound && (err != api.ErrLimit || len(found) > 0) {
				t.Errorf("graph %d: %s: %d, %d found instead of %d", i, kinds[k].name, err, len(found), want)
			}
		}
	}
}

// A search that goes back must not try all labels of nodes that have nothing to do with the reason. Here the first node is about a seat, and the last ones about the other seats and guests; it cannot be In, whatever the nodes between them are.
func TestSearchesThatGoBackFar(t *testing.T) {
	table := seats(3, 2)
	number := append(list(0), those(api.MaxNodes, func(i int) bool { return i > api.MaxNodes-table.N })...)
	for _, between := range []struct {
		g   api.Graph
		err api.Errno
	}{{join(times(15, pair), of(1)), api.ErrLimit}, {join(times(15, half), of(1)), api.ErrLimit}, {join(times(10, cycle(3)), of(1)), api.OK}, {of(31), api.OK}} {
		g := renumbered(join(table, between.g), append(slices.Clone(number), all(32)[1:]...))
		found, err := Complete(g)
		if err != between.err || len(found) > 1 || err == api.OK && (!labelling.IsComplete(g, found[0]) || found[0][0] != und) {
			t.Errorf("%v: %d, %v", g, err, found)
		}
	}
}

// product returns all lists that begin with an element of one list of lists and go on with an element of the other one.
func product(a, b [][]int) [][]int {
	var joined [][]int
	for _, x := range a {
		for _, y := range b {
			joined = append(joined, slices.Concat(x, y))
		}
	}
	return joined
}

// shifted adds a number to all elements of lists.
func shifted(l [][]int, by int) [][]int {
	var other [][]int
	for _, x := range l {
		other = append(other, those(by+api.MaxNodes, func(i int) bool { return slices.Contains(x, i-by) }))
	}
	return other
}

// A consequence: parts without attacks between them. Their nodes are mixed, so that a search in the order of the nodes goes to and fro between the parts.
func TestGraphsOfParts(t *testing.T) {
	random := rand.New(rand.NewSource(141))
	listed := [2]int{}
	for range 1500 {
		g, labellings, sets := of(0), lists(nil), lists(nil)
		for range 2 + random.Intn(7) {
			part := randomGraph(random, 1+random.Intn(5))
			if len(labellings) > api.MaxFound && len(sets) > api.MaxFound || g.N+part.N > api.MaxNodes {
				break
			}
			labellings, sets = product(labellings, slowLabellings(part)), product(sets, shifted(slowNaive(part), g.N))
			g = join(g, part)
		}
		number := random.Perm(g.N)
		place := make([]int, g.N)
		for i, x := range number {
			place[x] = i
		}
		for k, l := range labellings {
			labellings[k] = those(0, nil)
			for _, i := range place {
				labellings[k] = append(labellings[k], l[i])
			}
		}
		for k, set := range sets {
			sets[k] = those(g.N, func(i int) bool { return slices.Contains(set, place[i]) })
		}
		g = renumbered(g, number)
		for k, want := range [][][]int{labellings, sets} {
			slices.SortFunc(want, slices.Compare)
			found, err := kinds[k].find(g)
			checkFound(t, g, found, err, want)
			if len(found) > 20 {
				listed[k]++
			}
		}
	}
	if min(listed[0], listed[1]) < 100 {
		t.Errorf("%d long lists only", listed)
	}
}

// mostNodes returns random graphs with up to MaxNodes nodes.
func mostNodes(seed int64, times int) func(yield func(*rand.Rand, api.Graph) bool) {
	return func(yield func(*rand.Rand, api.Graph) bool) {
		random := rand.New(rand.NewSource(seed))
		for range times {
			if !yield(random, randomGraph(random, api.MaxNodes-random.Intn(15))) {
				return
			}
		}
	}
}

// randomNaive returns a random conflict-free set to which no node can be added.
func randomNaive(random *rand.Rand, g api.Graph) []int {
	var set []int
	for _, i := range random.Perm(g.N) {
		larger := slices.Sorted(slices.Values(append(slices.Clone(set), i)))
		if admissible.ConflictFree(g, larger) {
			set = larger
		}
	}
	return set
}

// checkGreatGraphs checks that what a search finds in great graphs has a property and is in order, and that what has the property is among it.
func checkGreatGraphs(t *testing.T, seed int64, find func(api.Graph) ([][]int, api.Errno), has func(api.Graph, []int) bool, with func(*rand.Rand, api.Graph) []int) {
	t.Helper()
	several := 0
	for random, g := range mostNodes(seed, 1500) {
		found, err := find(g)
		if err != api.OK {
			if err != api.ErrLimit || len(found) > 0 {
				t.Fatalf("%v: %d, %v", g, err, found)
			}
			continue
		}
		for k, l := range found {
			if !has(g, l) || k > 0 && slices.Compare(found[k-1], l) >= 0 {
				t.Fatalf("%v: %v", g, l)
			}
		}
		for range 10 {
			l := with(random, g)
			if _, listed := slices.BinarySearchFunc(found, l, slices.Compare); !has(g, l) || !listed {
				t.Fatalf("%v: %v is missing", g, l)
			}
		}
		if len(found) > 3 {
			several++
		}
	}
	if several < 100 {
		t.Errorf("%d graphs with several results only", several)
	}
}

// faulty are graphs that are not valid, with the error of graph.Validate.
var faulty = []struct {
	g   api.Graph
	err api.Errno
}{
	{of(-1), api.ErrRange}, {of(41), api.ErrRange}, {of(64), api.ErrRange}, {of(65), api.ErrRange}, {of(1 << 32), api.ErrRange}, {of(1<<32 + 3), api.ErrRange}, {of(math.MaxInt), api.ErrRange}, {of(math.MinInt), api.ErrRange}, {of(math.MaxInt, 0, 1), api.ErrRange}, {of(-1, 0, 0), api.ErrRange}, {of(0, 0, 0), api.ErrRange},
	{of(3, 0, 3), api.ErrRange}, {of(3, 3, 0), api.ErrRange}, {of(3, -1, 0), api.ErrRange}, {of(3, 0, -1), api.ErrRange}, {of(3, math.MinInt, math.MaxInt), api.ErrRange}, {of(3, 1<<32, 1), api.ErrRange}, {of(40, 39, 40), api.ErrRange}, {of(41, 40, 40), api.ErrRange}, {of(2, 1, 0, 0, 1), api.ErrOrder}, {of(3, 0, 1, 0, 1), api.ErrOrder}, {of(3, 1, 2, 1, 0), api.ErrOrder}, {of(1, 0, 0, 0, 0), api.ErrOrder},
	// the first fault counts
	{of(3, 0, 1, 1, 2, 1, 1, 2, 99), api.ErrOrder}, {of(3, 0, 1, 1, 2, 2, 99, 1, 1), api.ErrRange}, {of(41, 1, 0, 0, 1), api.ErrRange},
	// a graph with too many of both, and a fault at its end
	{join(times(19, pair), of(2, 1, 0, 0, 1)), api.ErrOrder}, {join(times(20, pair), of(0, 0, 0)), api.ErrRange}, {times(21, pair), api.ErrRange},
	{api.Graph{N: 2, L: slices.Repeat([]api.Pair{{From: 0, To: 1}}, 1<<20)}, api.ErrOrder}, {api.Graph{N: 2, L: slices.Repeat([]api.Pair{{From: 2, To: 1}}, 1<<20)}, api.ErrRange},
}

func TestGraphsThatAreNotValid(t *testing.T) {
	for i, x := range faulty {
		if err := graph.Validate(x.g); err != x.err {
			t.Errorf("graph %d: Validate returns %d", i, err)
		}
		for _, kind := range kinds {
			if found, err := kind.find(x.g); err != x.err || len(found) > 0 {
				t.Errorf("graph %d: %s: %d, %v", i, kind.name, err, found)
			}
		}
	}
}

// R2, R3

func overwrite(l []int) {
	for k := range l[:cap(l)] {
		l[:cap(l)][k] = 77
	}
}

func TestTheFunctionsLeaveTheirArguments(t *testing.T) {
	whole := of(6, 0, 1, 1, 0, 2, 3, 3, 2, 5, 0, 9, 9, 9, 9)
	g, attacks := api.Graph{N: whole.N, L: whole.L[:5]}, slices.Clone(whole.L)
	for range 2 {
		for k, want := range [][][]int{
			lists(list(out, in, in, out, in, in), list(out, in, out, in, in, in), list(out, in, und, und, in, in)),
			lists(list(0, 2, 4), list(0, 3, 4), list(1, 2, 4, 5), list(1, 3, 4, 5)),
		} {
			found, err := kinds[k].find(g)
			if err != api.OK || len(found) != len(want) {
				t.Fatalf("%s: %d, %v", kinds[k].name, err, found)
			}
			for n, l := range found { // while those before it are overwritten
				if !slices.Equal(l, want[n]) {
					t.Errorf("%s: %v instead of %v", kinds[k].name, l, want[n])
				}
				overwrite(l)
			}
		}
	}
	if !slices.Equal(whole.L, attacks) {
		t.Errorf("changed: %v", whole.L)
	}
}
