package extension

import (
	"cmp"
	"math"
	"math/rand"
	"slices"
	"testing"

	"deliberation/admissible"
	"deliberation/api"
	"deliberation/labelling"
	"deliberation/search"
)

const (
	in  = api.In
	out = api.Out
	und = api.Undecided
)

func list(x ...int) []int { return x }

// lists returns some lists.
func lists(x ...[]int) [][]int { return x }

// of returns the graph with n nodes and attacks from pairs of numbers.
func of(n int, numbers ...int) api.Graph {
	g := api.Graph{N: n}
	for k := 0; k < len(numbers); k += 2 {
		g.L = append(g.L, api.Pair{From: numbers[k], To: numbers[k+1]})
	}
	return g
}

// where returns the graph with n nodes and the attacks for which a condition holds.
func where(n int, attacks func(from, to int) bool) api.Graph {
	g := api.Graph{N: n}
	for from := range n {
		for to := range n {
			if attacks(from, to) {
				g.L = append(g.L, api.Pair{From: from, To: to})
			}
		}
	}
	return g
}

func full(n int) api.Graph   { return where(n, func(int, int) bool { return true }) }
func cycle(n int) api.Graph  { return where(n, func(from, to int) bool { return to == (from+1)%n }) }
func chain(n int) api.Graph  { return where(n, func(from, to int) bool { return to == from+1 }) }
func rivals(n int) api.Graph { return where(n, func(from, to int) bool { return from != to }) }

// pair: two nodes that attack each other. half: the second one attacks itself, too. choice: the second example of the chapter.
var pair, half, choice = of(2, 0, 1, 1, 0), of(2, 0, 1, 1, 0, 1, 1), of(3, 0, 1, 1, 0, 1, 2, 2, 2)

// pattern returns n elements that repeat some numbers.
func pattern(n int, x ...int) []int {
	l := make([]int, n)
	for i := range l {
		l[i] = x[i%len(x)]
	}
	return l
}

// winners returns the labellings of n nodes of which one is In and the others are Out.
func winners(n int) [][]int {
	var l [][]int
	for i := range n {
		l = append(l, pattern(n, out))
		l[i][i] = in
	}
	return l
}

// join returns the graph of parts without attacks between them.
func join(parts ...api.Graph) api.Graph {
	var g api.Graph
	for _, part := range parts {
		for _, p := range part.L {
			g.L = append(g.L, api.Pair{From: g.N + p.From, To: g.N + p.To})
		}
		g.N += part.N
	}
	return g
}

func times(n int, part api.Graph) api.Graph { return join(slices.Repeat([]api.Graph{part}, n)...) }

// under returns a graph with two more nodes at the end, which attack each other, and of which the first one attacks all others: it has two more complete labellings, one of them with this node In.
func under(g api.Graph) api.Graph {
	lower := api.Graph{N: g.N + 2, L: slices.Clone(g.L)}
	for i := range g.N {
		lower.L = append(lower.L, api.Pair{From: g.N, To: i})
	}
	lower.L = append(lower.L, api.Pair{From: g.N, To: g.N + 1}, api.Pair{From: g.N + 1, To: g.N})
	return lower
}

// renumbered returns a graph with a new number for each node.
func renumbered(g api.Graph, number []int) api.Graph {
	other := api.Graph{N: g.N}
	for _, p := range g.L {
		other.L = append(other.L, api.Pair{From: number[p.From], To: number[p.To]})
	}
	slices.SortFunc(other.L, func(a, b api.Pair) int { return cmp.Or(a.From-b.From, a.To-b.To) })
	return other
}

// graphsUpTo returns all graphs with at most n nodes.
func graphsUpTo(n int) func(yield func(api.Graph) bool) {
	return func(yield func(api.Graph) bool) {
		for size := range n + 1 {
			for set := range 1 << (size * size) {
				if !yield(where(size, func(from, to int) bool { return set>>(size*from+to)&1 == 1 })) {
					return
				}
			}
		}
	}
}

// randomGraph returns a random graph with n nodes: with few attacks or with many, and with or without attacks on the attacker and on itself.
func randomGraph(random *rand.Rand, n int) api.Graph {
	attacks := []float64{0.7, 1, 1.5, 2, 3, float64(n) / 3}[random.Intn(6)] // by a node, on average
	back := []float64{0, 0.3, 0.9}[random.Intn(3)]
	self := []float64{0, 0, 0.1, 0.3}[random.Intn(4)]
	chosen := make(map[api.Pair]bool)
	for from := range n {
		for to := range n {
			if from == to {
				chosen[api.Pair{From: from, To: to}] = random.Float64() < self
			} else if random.Float64()*float64(n) < attacks {
				chosen[api.Pair{From: from, To: to}] = true
				chosen[api.Pair{From: to, To: from}] = chosen[api.Pair{From: to, To: from}] || random.Float64() < back
			}
		}
	}
	return where(n, func(from, to int) bool { return chosen[api.Pair{From: from, To: to}] })
}

// greatGraphs returns random graphs with up to MaxNodes nodes. Every second one has parts, of which some depend on a choice.
func greatGraphs(seed int64, times int) func(yield func(*rand.Rand, api.Graph) bool) {
	return func(yield func(*rand.Rand, api.Graph) bool) {
		random := rand.New(rand.NewSource(seed))
		for k := range times {
			g := randomGraph(random, api.MaxNodes-random.Intn(25))
			if k%2 == 0 {
				g = join(under(randomGraph(random, random.Intn(10))), choice, randomGraph(random, random.Intn(20)))
				g = renumbered(g, random.Perm(g.N))
			}
			if !yield(random, g) {
				return
			}
		}
	}
}

// kinds are the three functions, in the order in which the tables of the tests have their results.
var kinds = []struct {
	name string
	find func(api.Graph) ([][]int, api.Errno)
}{{"preferred", Preferred}, {"stable", Stable}, {"semi-stable", SemiStable}}

func same(a, b [][]int) bool { return slices.EqualFunc(a, b, slices.Equal) }

func contains(l [][]int, x []int) bool {
	return slices.ContainsFunc(l, func(y []int) bool { return slices.Equal(x, y) })
}

// P15.1

func TestLabellingsOfSomeGraphs(t *testing.T) {
	for i, x := range []struct {
		g                       api.Graph
		preferred, stable, semi [][]int
	}{
		// no choice: one labelling, which is stable if no node is Undecided
		{of(0), lists(nil), lists(nil), lists(nil)}, {of(1), lists(list(in)), lists(list(in)), lists(list(in))}, {of(1, 0, 0), lists(list(und)), nil, lists(list(und))},
		{chain(3), lists(list(in, out, in)), lists(list(in, out, in)), lists(list(in, out, in))}, {chain(40), lists(pattern(40, in, out)), lists(pattern(40, in, out)), lists(pattern(40, in, out))}, {of(2, 0, 0, 1, 0), lists(list(out, in)), lists(list(out, in)), lists(list(out, in))}, {of(2, 0, 0), lists(list(und, in)), nil, lists(list(und, in))},
		{cycle(5), lists(pattern(5, und)), nil, lists(pattern(5, und))}, {cycle(39), lists(pattern(39, und)), nil, lists(pattern(39, und))}, {full(40), lists(pattern(40, und)), nil, lists(pattern(40, und))}, {of(40), lists(pattern(40, in)), lists(pattern(40, in)), lists(pattern(40, in))},
		// a choice: the labellings in which nothing is chosen are left out
		{pair, lists(list(in, out), list(out, in)), lists(list(in, out), list(out, in)), lists(list(in, out), list(out, in))}, {cycle(40), lists(pattern(40, in, out), pattern(40, out, in)), lists(pattern(40, in, out), pattern(40, out, in)), lists(pattern(40, in, out), pattern(40, out, in))}, {half, lists(list(in, out)), lists(list(in, out)), lists(list(in, out))}, {of(2, 0, 0, 0, 1, 1, 0), lists(list(out, in)), lists(list(out, in)), lists(list(out, in))}, {rivals(40), winners(40), winners(40), winners(40)},
		{join(pair, cycle(3)), lists(list(in, out, und, und, und), list(out, in, und, und, und)), nil, lists(list(in, out, und, und, und), list(out, in, und, und, und))},
		{times(2, pair), lists(list(in, out, in, out), list(in, out, out, in), list(out, in, in, out), list(out, in, out, in)), lists(list(in, out, in, out), list(in, out, out, in), list(out, in, in, out), list(out, in, out, in)), lists(list(in, out, in, out), list(in, out, out, in), list(out, in, in, out), list(out, in, out, in))},
		// what is greatest is not what has most: 0 or 1 decides about what depends on it
		{of(5, 0, 1, 1, 0, 1, 2, 1, 3, 1, 4), lists(list(in, out, in, in, in), list(out, in, out, out, out)), lists(list(in, out, in, in, in), list(out, in, out, out, out)), lists(list(in, out, in, in, in), list(out, in, out, out, out))},
		{of(5, 0, 1, 1, 0, 1, 2, 2, 3, 3, 4, 4, 2), lists(list(in, out, und, und, und), list(out, in, out, in, out)), lists(list(out, in, out, in, out)), lists(list(out, in, out, in, out))},
		// no stable labelling: the sets of Undecided nodes are compared, and not their numbers
		{of(4, 0, 1, 0, 2, 1, 0, 1, 3, 2, 2, 3, 3), lists(list(in, out, out, und), list(out, in, und, out)), nil, lists(list(in, out, out, und), list(out, in, und, out))}, {of(4, 0, 1, 0, 2, 1, 0, 2, 2, 3, 3), lists(list(in, out, out, und), list(out, in, und, und)), nil, lists(list(in, out, out, und))},
		{of(5, 0, 1, 0, 2, 1, 0, 1, 3, 1, 4, 2, 2, 3, 3, 4, 4), lists(list(in, out, out, und, und), list(out, in, und, out, out)), nil, lists(list(in, out, out, und, und), list(out, in, und, out, out))}, {of(5, 0, 1, 1, 0, 1, 2, 2, 2, 3, 3, 4, 4), lists(list(in, out, und, und, und), list(out, in, out, und, und)), nil, lists(list(out, in, out, und, und))},
		// the examples of the chapter
		{cycle(3), lists(list(und, und, und)), nil, lists(list(und, und, und))}, {choice, lists(list(in, out, und), list(out, in, out)), lists(list(out, in, out)), lists(list(out, in, out))},
	} {
		for k, want := range [][][]int{x.preferred, x.stable, x.semi} {
			if got, err := kinds[k].find(x.g); err != api.OK || !same(got, want) {
				t.Errorf("graph %d: %s: %d, %v", i, kinds[k].name, err, got)
			}
		}
	}
}

// slowComplete returns all complete labellings.
func slowComplete(g api.Graph) [][]int {
	labellings := lists(nil)
	for range g.N {
		var longer [][]int
		for _, l := range labellings {
			for _, label := range list(in, out, und) {
				longer = append(longer, append(slices.Clone(l), label))
			}
		}
		labellings = longer
	}
	return slices.DeleteFunc(labellings, func(l []int) bool { return !labelling.IsComplete(g, l) })
}

// contained reports whether all elements of a are elements of b.
func contained(a, b []int) bool {
	return !slices.ContainsFunc(a, func(x int) bool { return !slices.Contains(b, x) })
}

// byTerms takes the terms of the chapter at their word: it returns the preferred, the stable and the semi-stable ones of all complete labellings.
func byTerms(complete [][]int) [][][]int {
	kept := make([][][]int, 3)
	for k, l := range complete {
		preferred, semi := true, true
		for other, x := range complete {
			if k != other && contained(labelling.With(l, in), labelling.With(x, in)) {
				preferred = false
			}
			fewer := len(labelling.With(x, und)) < len(labelling.With(l, und))
			if fewer && contained(labelling.With(x, und), labelling.With(l, und)) {
				semi = false
			}
		}
		for n, has := range []bool{preferred, len(labelling.With(l, und)) == 0, semi} {
			if has {
				kept[n] = append(kept[n], l)
			}
		}
	}
	return kept
}

// checkTerms compares the three functions with the terms, and returns how many of the lists of a graph differ.
func checkTerms(t *testing.T, g api.Graph, complete [][]int) int {
	t.Helper()
	want := byTerms(complete)
	different := 1
	for k, l := range want {
		if got, err := kinds[k].find(g); err != api.OK || !same(got, l) {
			t.Fatalf("%v: %s: %d, %v instead of %v", g, kinds[k].name, err, got, l)
		}
		if k > 0 && !same(l, want[0]) && !same(l, want[k-1]) {
			different++
		}
	}
	return different
}

func TestTermsForAllSmallGraphs(t *testing.T) {
	for g := range graphsUpTo(3) {
		checkTerms(t, g, slowComplete(g))
	}
}

func TestTermsForRandomGraphs(t *testing.T) {
	random := rand.New(rand.NewSource(151))
	different := 0
	for range 1500 {
		g := randomGraph(random, 4+random.Intn(3))
		if checkTerms(t, g, slowComplete(g)) > 1 {
			different++
		}
	}
	if different < 30 {
		t.Errorf("%d graphs with different lists only", different)
	}
}

// The complete labellings of great graphs are those of package search, whose tests examine them.
func TestTermsForGreatGraphs(t *testing.T) {
	different := 0
	for _, g := range greatGraphs(152, 800) {
		complete, err := search.Complete(g)
		if err == api.OK && checkTerms(t, g, complete) > 2 {
			different++
		}
	}
	if different < 20 {
		t.Errorf("%d graphs with three different lists only", different)
	}
}

// setsOf returns all sets of the numbers below n.
func setsOf(n int) [][]int {
	sets := lists(nil)
	for i := range n {
		for _, set := range sets {
			sets = append(sets, append(slices.Clone(set), i))
		}
	}
	return sets
}

// bySets returns the labellings of the greatest admissible sets, of the stable ones, and of the complete ones of greatest range.
func bySets(g api.Graph) [][][]int {
	var admitted, stable, complete [][]int
	for _, set := range setsOf(g.N) {
		if admissible.Admissible(g, set) {
			admitted = append(admitted, set)
		}
		if admissible.IsStable(g, set) {
			stable = append(stable, set)
		}
		if admissible.IsComplete(g, set) {
			complete = append(complete, set)
		}
	}
	greatest := func(sets [][]int, size func(set []int) []int) [][]int {
		return slices.DeleteFunc(slices.Clone(sets), func(set []int) bool {
			return slices.ContainsFunc(sets, func(other []int) bool {
				return len(size(other)) > len(size(set)) && contained(size(set), size(other))
			})
		})
	}
	itself := func(set []int) []int { return set }
	covered := func(set []int) []int { return admissible.Range(g, set) }
	kept := [][][]int{greatest(admitted, itself), stable, greatest(complete, covered)}
	for _, sets := range kept {
		for k, set := range sets {
			sets[k] = labelling.FromSet(g, set)
		}
		slices.SortFunc(sets, labelling.Compare)
	}
	return kept
}

// Other definitions of the same: for sets instead of labellings.
func TestLabellingsOfSets(t *testing.T) {
	check := func(g api.Graph) {
		for k, want := range bySets(g) {
			if got, err := kinds[k].find(g); err != api.OK || !same(got, want) {
				t.Fatalf("%v: %s: %d, %v instead of %v", g, kinds[k].name, err, got, want)
			}
		}
	}
	for g := range graphsUpTo(3) {
		check(g)
	}
	random := rand.New(rand.NewSource(153))
	for range 2000 {
		check(randomGraph(random, 4+random.Intn(4)))
	}
}

// The number of complete labellings decides on ErrLimit, and not how many of them are kept.
func TestNumbersOfLabellings(t *testing.T) {
	five := rivals(4) // complete labellings
	more := under(join(five, under(under(times(2, pair)))))
	for i, x := range []struct {
		g                       api.Graph
		preferred, stable, semi int // -1 stands for ErrLimit
	}{
		{times(4, pair), 16, 16, 16}, {times(5, pair), -1, -1, -1}, {times(20, pair), -1, -1, -1}, {times(7, half), 1, 1, 1}, {times(8, half), -1, -1, -1}, {times(20, half), -1, -1, -1}, {join(times(7, half), cycle(3)), 1, 0, 1}, {join(times(8, half), cycle(3)), -1, -1, -1}, {join(times(5, pair), of(1, 0, 0)), -1, -1, -1}, {join(of(1, 0, 0), times(4, pair)), 16, 0, 16},
		{times(3, choice), 8, 1, 1}, {times(4, choice), 16, 1, 1}, {times(5, choice), -1, -1, -1}, {times(2, rivals(13)), 169, 169, 169}, {times(2, rivals(14)), -1, -1, -1}, {join(times(4, choice), cycle(3)), 16, 0, 1},
		// MaxFound, and one more
		{join(five, five, half, half, half), 16, 16, 16}, {join(five, five, half, half, half, of(26)), 16, 16, 16}, {join(five, five, half, half, half, cycle(3)), 16, 0, 16}, {join(pair, more), -1, -1, -1}, {join(choice, more), -1, -1, -1}, {join(pair, more, of(1, 0, 0)), -1, -1, -1}, {more, 25, 25, 25}, {join(half, more), 25, 25, 25},
	} {
		for k, want := range list(x.preferred, x.stable, x.semi) {
			found, err := kinds[k].find(x.g)
			if want >= 0 && (err != api.OK || len(found) != want) || want < 0 && (err != api.ErrLimit || len(found) > 0) {
				t.Errorf("graph %d: %s: %d, %d found instead of %d", i, kinds[k].name, err, len(found), want)
			}
		}
	}
}

func TestErrorsAreThoseOfComplete(t *testing.T) {
	limits := 0
	for _, g := range greatGraphs(154, 500) {
		_, want := search.Complete(g)
		for _, kind := range kinds {
			if found, err := kind.find(g); err != want || err != api.OK && len(found) > 0 {
				t.Fatalf("%v: %s: %d instead of %d, %v", g, kind.name, err, want, found)
			}
		}
		if want == api.ErrLimit {
			limits++
		}
	}
	if limits < 10 {
		t.Errorf("%d graphs with too many labellings only", limits)
	}
}

func TestGraphsThatAreNotValid(t *testing.T) {
	for i, x := range []struct {
		g   api.Graph
		err api.Errno
	}{
		{of(-1), api.ErrRange}, {of(41), api.ErrRange}, {of(64), api.ErrRange}, {of(1 << 32), api.ErrRange}, {of(math.MaxInt), api.ErrRange}, {of(math.MinInt), api.ErrRange}, {of(0, 0, 0), api.ErrRange}, {of(-1, 0, 0), api.ErrRange}, {of(math.MaxInt, 0, 1), api.ErrRange},
		{of(3, 0, 3), api.ErrRange}, {of(3, 3, 0), api.ErrRange}, {of(3, -1, 0), api.ErrRange}, {of(3, 0, -1), api.ErrRange}, {of(3, math.MinInt, math.MaxInt), api.ErrRange}, {of(2, 1, 0, 0, 1), api.ErrOrder}, {of(2, 1, 1, 0, 0), api.ErrOrder}, {of(3, 0, 1, 0, 1), api.ErrOrder}, {of(3, 1, 2, 1, 0), api.ErrOrder},
		// the first fault counts
		{of(3, 1, 2, 1, 1, 2, 99), api.ErrOrder}, {of(3, 1, 2, 2, 99, 1, 1), api.ErrRange}, {of(41, 1, 0, 0, 1), api.ErrRange},
		// too many labellings, too
		{join(times(19, pair), of(2, 1, 0, 0, 1)), api.ErrOrder}, {join(times(20, pair), of(0, 0, 0)), api.ErrRange}, {times(21, pair), api.ErrRange},
	} {
		for _, kind := range kinds {
			if found, err := kind.find(x.g); err != x.err || len(found) > 0 {
				t.Errorf("graph %d: %s: %d, %v", i, kind.name, err, found)
			}
		}
	}
}

// found returns the preferred, stable and semi-stable labellings, and false if there are too many complete ones.
func found(t *testing.T, g api.Graph) (preferred, stable, semi [][]int, ok bool) {
	t.Helper()
	preferred, a := Preferred(g)
	stable, b := Stable(g)
	semi, c := SemiStable(g)
	if a != b || b != c || a != api.OK && a != api.ErrLimit {
		t.Fatalf("%v: %d, %d, %d", g, a, b, c)
	}
	return preferred, stable, semi, a == api.OK
}

// The consequences: stable labellings are semi-stable, and these preferred, and with a stable labelling the semi-stable ones are the stable ones.
func TestKindsOfLabellings(t *testing.T) {
	withStable := 0
	for _, g := range greatGraphs(155, 1000) {
		preferred, stable, semi, ok := found(t, g)
		if !ok {
			continue
		}
		if len(preferred) == 0 || len(semi) == 0 || len(stable) > 0 && !same(stable, semi) {
			t.Fatalf("%v: %v, %v, %v", g, preferred, stable, semi)
		}
		for _, l := range slices.Concat(stable, semi) {
			if !contains(semi, l) || !contains(preferred, l) {
				t.Fatalf("%v: %v", g, l)
			}
		}
		if len(stable) > 0 {
			withStable++
		}
	}
	if withStable < 50 || withStable > 950 {
		t.Errorf("%d graphs with stable labellings", withStable)
	}
}

// randomFree returns a random conflict-free set to which no node can be added.
func randomFree(random *rand.Rand, g api.Graph) []int {
	var set []int
	for _, i := range random.Perm(g.N) {
		larger := slices.Sorted(slices.Values(append(slices.Clone(set), i)))
		if admissible.ConflictFree(g, larger) {
			set = larger
		}
	}
	return set
}

// A consequence: every admissible set is contained in a preferred one.
func TestAdmissibleSetsArePreferred(t *testing.T) {
	several := 0
	for random, g := range greatGraphs(156, 500) {
		preferred, err := Preferred(g)
		if err != api.OK {
			continue
		}
		for range 10 {
			set, _ := admissible.Shrink(g, randomFree(random, g))
			if !slices.ContainsFunc(preferred, func(l []int) bool { return contained(set, labelling.With(l, in)) }) {
				t.Fatalf("%v: %v is in no one of %v", g, set, preferred)
			}
			if len(preferred) > 1 && len(set) > 0 {
				several++
			}
		}
	}
	if several < 300 {
		t.Errorf("%d sets with several labellings only", several)
	}
}

// evenGraph returns a random graph without cycles of odd length: within each of its blocks, attacks are between odd and even nodes, and all others lead to later blocks.
func evenGraph(random *rand.Rand) api.Graph {
	n, size, dense := random.Intn(30), 2+random.Intn(8), 2+random.Intn(6)
	g := where(n, func(from, to int) bool {
		within := from/size == to/size && (from+to)%2 == 1
		return random.Intn(dense) == 0 && (within || from/size < to/size)
	})
	return renumbered(g, random.Perm(n))
}

// A consequence: without cycles of odd length, the preferred labellings are the stable ones, and there is one.
func TestGraphsWithoutOddCycles(t *testing.T) {
	random := rand.New(rand.NewSource(157))
	several := 0
	for range 2000 {
		g := evenGraph(random)
		preferred, stable, semi, ok := found(t, g)
		if ok && (len(stable) == 0 || !same(preferred, stable) || !same(semi, stable)) {
			t.Fatalf("%v: %v, %v, %v", g, preferred, stable, semi)
		}
		if len(stable) > 1 {
			several++
		}
	}
	if several < 200 {
		t.Errorf("%d graphs with several stable labellings only", several)
	}
}

// The labellings depend on the attacks alone, and their order on the numbers of the nodes.
func TestRenumberedNodes(t *testing.T) {
	for random, g := range greatGraphs(158, 300) {
		number := random.Perm(g.N)
		for _, kind := range kinds {
			here, err := kind.find(g)
			there, other := kind.find(renumbered(g, number))
			if err != other {
				t.Fatalf("%v: %s: %d and %d", g, kind.name, err, other)
			}
			var want [][]int
			for _, l := range here {
				moved := make([]int, g.N)
				for i, label := range l {
					moved[number[i]] = label
				}
				want = append(want, moved)
			}
			slices.SortFunc(want, slices.Compare)
			if !same(there, want) {
				t.Fatalf("%v: %s: %v instead of %v", g, kind.name, there, want)
			}
		}
	}
}

// R2, R3

func TestTheFunctionsLeaveTheirArguments(t *testing.T) {
	whole := join(choice, pair, of(1), of(0, 9, 9, 9, 9))
	attacks := slices.Clone(whole.L)
	g := api.Graph{N: whole.N, L: whole.L[:6]}
	for range 2 {
		for k, want := range [][][]int{
			lists(list(in, out, und, in, out, in), list(in, out, und, out, in, in), list(out, in, out, in, out, in), list(out, in, out, out, in, in)),
			lists(list(out, in, out, in, out, in), list(out, in, out, out, in, in)),
			lists(list(out, in, out, in, out, in), list(out, in, out, out, in, in)),
		} {
			found, err := kinds[k].find(g)
			if err != api.OK || len(found) != len(want) {
				t.Fatalf("%s: %d, %v", kinds[k].name, err, found)
			}
			for n, l := range found { // while those before it are overwritten
				if !slices.Equal(l, want[n]) {
					t.Errorf("%s: %v instead of %v", kinds[k].name, l, want[n])
				}
				for i := range l[:cap(l)] {
					l[:cap(l)][i] = 77
				}
			}
		}
	}
	if !slices.Equal(whole.L, attacks) {
		t.Errorf("changed: %v", whole.L)
	}
}
