package graph

import (
	"math"
	"math/rand"
	"slices"
	"testing"

	"deliberation/api"
)

// of returns the graph with n nodes and attacks from pairs of numbers.
func of(n int, numbers ...int) api.Graph {
	g := api.Graph{N: n}
	for k := 0; k < len(numbers); k += 2 {
		g.L = append(g.L, api.Pair{From: numbers[k], To: numbers[k+1]})
	}
	return g
}

// where returns the graph with n nodes and the attacks for which a condition holds.
func where(n int, attacks func(from, to int) bool) api.Graph {
	g := api.Graph{N: n}
	for from := range n {
		for to := range n {
			if attacks(from, to) {
				g.L = append(g.L, api.Pair{From: from, To: to})
			}
		}
	}
	return g
}

func full(n int) api.Graph  { return where(n, func(int, int) bool { return true }) }
func cycle(n int) api.Graph { return where(n, func(from, to int) bool { return to == (from+1)%n }) }
func chain(n int) api.Graph { return where(n, func(from, to int) bool { return to == from+1 }) }

// randomGraphs returns random graphs of all sizes, with few attacks and with many, and some of two parts that do not attack each other.
func randomGraphs(seed int64, times int) func(yield func(api.Graph) bool) {
	random := rand.New(rand.NewSource(seed))
	return func(yield func(api.Graph) bool) {
		for range times {
			n := random.Intn(9)
			if random.Intn(8) == 0 {
				n = random.Intn(api.MaxNodes + 1)
			}
			parts := 1 + random.Intn(2)
			each := []float64{0.3, 0.7, 1, 1.3, 2, float64(n) / 2}[random.Intn(6)] // attacks by a node, on average
			attacks := func(from, to int) bool {
				return from%parts == to%parts && random.Float64()*float64(n) < each
			}
			if !yield(where(n, attacks)) {
				return
			}
		}
	}
}

// wrong are numbers that are not nodes of any graph.
var wrong = []int{-1, -2, api.MaxNodes, api.MaxNodes + 1, 63, 64, 65, 127, 128, 1 << 32, 1<<32 + 1, math.MaxInt, math.MinInt, math.MinInt + 1}

// faulty are graphs that are not valid, with their errors.
var faulty = []struct {
	g   api.Graph
	err api.Errno
}{
	// N, before all pairs
	{of(-1), api.ErrRange}, {of(41), api.ErrRange}, {of(math.MaxInt), api.ErrRange}, {of(math.MinInt), api.ErrRange},
	{of(1 << 32), api.ErrRange}, {of(1<<32 + 3), api.ErrRange}, {of(-1, 0, 0), api.ErrRange}, {of(41, 40, 40), api.ErrRange},
	{of(41, 1, 0, 0, 1), api.ErrRange}, {of(-1, 1, 0, 0, 1), api.ErrRange}, {of(64, 0, 1), api.ErrRange},
	// From and To
	{of(0, 0, 0), api.ErrRange}, {of(1, 0, 1), api.ErrRange}, {of(1, 1, 0), api.ErrRange}, {of(2, 0, 2), api.ErrRange}, {of(2, 2, 0), api.ErrRange},
	{of(3, -1, 0), api.ErrRange}, {of(3, 0, -1), api.ErrRange}, {of(3, 3, 3), api.ErrRange}, {of(3, -1, -1), api.ErrRange},
	{of(40, 39, 40), api.ErrRange}, {of(40, 40, 39), api.ErrRange}, {of(3, math.MinInt, 0), api.ErrRange}, {of(3, 0, math.MaxInt), api.ErrRange},
	{of(3, 1<<32, 1), api.ErrRange}, {of(3, 1, 1<<32), api.ErrRange}, {of(3, 0, 1, 1, 2, 2, 3), api.ErrRange}, {of(3, 0, 1, 3, 0), api.ErrRange},
	// the order
	{of(3, 1, 0, 0, 1), api.ErrOrder}, {of(3, 0, 2, 0, 1), api.ErrOrder}, {of(3, 0, 1, 0, 1), api.ErrOrder}, {of(1, 0, 0, 0, 0), api.ErrOrder},
	{of(3, 1, 2, 1, 1), api.ErrOrder}, {of(3, 2, 0, 1, 2), api.ErrOrder}, {of(3, 0, 0, 0, 1, 0, 2, 0, 2), api.ErrOrder}, {of(40, 39, 39, 0, 0), api.ErrOrder},
	{of(12, 10, 0, 9, 11), api.ErrOrder}, {of(3, 0, 1, 2, 2, 1, 1, 2, 1), api.ErrOrder},
	// of one pair, its range comes first; of two pairs, the first one
	{of(3, 1, 0, 0, 3), api.ErrRange}, {of(3, 1, 0, -1, 0), api.ErrRange}, {of(3, 1, 1, 1, -1), api.ErrRange}, {of(3, 3, 0, 0, 1), api.ErrRange},
	{of(3, 1, 0, 0, 0, 5, 5), api.ErrOrder}, {of(3, 1, 1, 1, 1, -1, 0), api.ErrOrder}, {of(3, 0, 0, 5, 5, 0, 0), api.ErrRange}, {of(3, 5, 5, 5, 5), api.ErrRange},
}

// P10.1

func TestValidGraphs(t *testing.T) {
	for i, g := range []api.Graph{
		{}, {L: []api.Pair{}}, of(1), of(40), of(1, 0, 0), of(2, 0, 1), of(2, 1, 0), of(2, 0, 0, 0, 1, 1, 0, 1, 1), of(3, 0, 2, 1, 0, 2, 1),
		of(12, 2, 11, 10, 1), of(40, 0, 39, 39, 0, 39, 39), full(1), full(2), full(39), full(40), cycle(1), cycle(40), chain(40), where(40, func(from, to int) bool { return from > to }),
	} {
		if err := Validate(g); err != api.OK {
			t.Errorf("graph %d: %d", i, err)
		}
	}
}

func TestFaultyGraphs(t *testing.T) {
	for _, x := range faulty {
		if err := Validate(x.g); err != x.err {
			t.Errorf("%v: %d instead of %d", x.g, err, x.err)
		}
	}
}

// slowValidate looks at the sentences of P10.1 one after another.
func slowValidate(g api.Graph) api.Errno {
	between := func(x, least, greatest int) bool { return least <= x && x <= greatest }
	if !between(g.N, 0, api.MaxNodes) {
		return api.ErrRange
	}
	for k := range g.L {
		if p := g.L[k]; !between(p.From, 0, g.N-1) || !between(p.To, 0, g.N-1) {
			return api.ErrRange
		}
		if k == 0 {
			continue
		}
		before, p := g.L[k-1], g.L[k]
		if !(p.From > before.From || p.From == before.From && p.To > before.To) {
			return api.ErrOrder
		}
	}
	return api.OK
}

func TestValidateAsTheChapterSays(t *testing.T) {
	random := rand.New(rand.NewSource(101))
	numbers := append([]int{0, 1, 2, 3, 4, 5, 6, 7}, wrong...)
	var found [api.ErrOrder + 1]int
	for g := range randomGraphs(102, 20000) {
		if Validate(g) != api.OK {
			t.Fatalf("%v is not valid", g)
		}
		for range random.Intn(3) {
			spoil(random, &g, numbers)
		}
		err := Validate(g)
		if err != slowValidate(g) {
			t.Fatalf("%v: %d", g, err)
		}
		found[err]++
	}
	if min(found[api.OK], found[api.ErrRange], found[api.ErrOrder]) < 1000 {
		t.Errorf("%v", found)
	}
}

// spoil changes a number of a graph, or its order.
func spoil(random *rand.Rand, g *api.Graph, numbers []int) {
	if random.Intn(20) == 0 {
		g.N = numbers[random.Intn(len(numbers))]
		return
	}
	if len(g.L) == 0 {
		return
	}
	k, m := random.Intn(len(g.L)), random.Intn(len(g.L))
	switch random.Intn(4) {
	case 0:
		g.L[k].From = numbers[random.Intn(len(numbers))]
	case 1:
		g.L[k].To = numbers[random.Intn(len(numbers))]
	case 2:
		g.L[k], g.L[m] = g.L[m], g.L[k]
	case 3:
		g.L = slices.Insert(g.L, k, g.L[m])
	}
}

func TestAFaultyGraphHasNoNodes(t *testing.T) {
	list := []int{0, 1, 2, 3, 39, -1}
	for _, x := range faulty {
		for _, i := range append(list, wrong...) {
			if len(Attackers(x.g, i))+len(Attacked(x.g, i))+len(Reach(x.g, i)) > 0 {
				t.Errorf("%v: node %d", x.g, i)
			}
			for _, k := range append(list, wrong...) {
				if Has(x.g, i, k) {
					t.Errorf("%v: %d attacks %d", x.g, i, k)
				}
			}
		}
		for _, g := range []api.Graph{Induced(x.g, list), Induced(x.g, nil), Reverse(x.g)} {
			if g.N != 0 || len(g.L) > 0 {
				t.Errorf("%v: %v", x.g, g)
			}
		}
		if c := Components(x.g); len(c) > 0 {
			t.Errorf("%v: components %v", x.g, c)
		}
		for _, p := range x.g.L {
			if Has(x.g, p.From, p.To) || len(Attacked(x.g, p.From))+len(Attackers(x.g, p.To)) > 0 {
				t.Errorf("%v: %v", x.g, p)
			}
		}
	}
}

// P10.2

func TestNeighboursOfSomeNodes(t *testing.T) {
	for _, x := range []struct {
		g             api.Graph
		i             int
		by, to, reach []int
	}{
		{of(1), 0, nil, nil, []int{0}}, {of(1, 0, 0), 0, []int{0}, []int{0}, []int{0}},
		{of(2, 0, 1), 0, nil, []int{1}, []int{0, 1}}, {of(2, 0, 1), 1, []int{0}, nil, []int{1}},
		{of(2, 1, 0), 0, []int{1}, nil, []int{0}}, {of(2, 1, 0), 1, nil, []int{0}, []int{0, 1}},
		{of(2, 0, 1, 1, 0), 1, []int{0}, []int{0}, []int{0, 1}},
		{of(3, 0, 1, 0, 2, 1, 0, 2, 0), 0, []int{1, 2}, []int{1, 2}, []int{0, 1, 2}},
		{of(4, 0, 3, 1, 3, 2, 3, 3, 3), 3, []int{0, 1, 2, 3}, []int{3}, []int{3}},
		{of(4, 3, 0, 3, 1, 3, 2, 3, 3), 3, []int{3}, []int{0, 1, 2, 3}, []int{0, 1, 2, 3}},
		// along and against the numbers, through many nodes
		{of(5, 0, 1, 1, 2, 2, 3), 0, nil, []int{1}, []int{0, 1, 2, 3}}, {of(5, 1, 0, 2, 1, 3, 2), 3, nil, []int{2}, []int{0, 1, 2, 3}},
		{of(6, 0, 4, 1, 5, 2, 3, 4, 2), 0, nil, []int{4}, []int{0, 2, 3, 4}}, {of(6, 0, 4, 1, 5, 2, 3, 4, 2), 1, nil, []int{5}, []int{1, 5}},
		// a node behind, and one in front
		{of(4, 0, 1, 1, 2, 2, 1, 2, 3), 1, []int{0, 2}, []int{2}, []int{1, 2, 3}}, {of(4, 0, 1, 1, 2, 2, 1, 2, 3), 3, []int{2}, nil, []int{3}},
		{of(40, 38, 39, 39, 38), 39, []int{38}, []int{38}, []int{38, 39}}, {of(40, 0, 39), 0, nil, []int{39}, []int{0, 39}}, {of(40, 39, 0), 39, nil, []int{0}, []int{0, 39}},
		// the examples of the chapter
		{of(4, 0, 1, 1, 0, 1, 2, 3, 3), 0, []int{1}, []int{1}, []int{0, 1, 2}}, {of(4, 0, 1, 1, 0, 1, 2, 3, 3), 1, []int{0}, []int{0, 2}, []int{0, 1, 2}},
		{of(4, 0, 1, 1, 0, 1, 2, 3, 3), 2, []int{1}, nil, []int{2}}, {of(4, 0, 1, 1, 0, 1, 2, 3, 3), 3, []int{3}, []int{3}, []int{3}},
	} {
		by, to, reach := Attackers(x.g, x.i), Attacked(x.g, x.i), Reach(x.g, x.i)
		if !slices.Equal(by, x.by) || !slices.Equal(to, x.to) || !slices.Equal(reach, x.reach) {
			t.Errorf("%v: node %d: %v, %v, %v", x.g, x.i, by, to, reach)
		}
		for k := range x.g.N {
			if Has(x.g, x.i, k) != slices.Contains(x.to, k) || Has(x.g, k, x.i) != slices.Contains(x.by, k) {
				t.Errorf("%v: %d and %d", x.g, x.i, k)
			}
		}
	}
}

func TestNumbersThatAreNotNodes(t *testing.T) {
	for _, g := range []api.Graph{{}, of(1), of(1, 0, 0), of(3, 0, 1, 1, 2), cycle(39), full(40)} {
		for _, i := range append([]int{g.N}, wrong...) {
			if i >= 0 && i < g.N {
				continue
			}
			if l := append(append(Attackers(g, i), Attacked(g, i)...), Reach(g, i)...); len(l) > 0 {
				t.Errorf("%d nodes: %d: %v", g.N, i, l)
			}
			for k := range g.N {
				if Has(g, i, k) || Has(g, k, i) {
					t.Errorf("%d nodes: %d and %d", g.N, i, k)
				}
			}
			if Has(g, i, i) {
				t.Errorf("%d nodes: %d attacks itself", g.N, i)
			}
		}
	}
}

// matrix returns which node attacks which one.
func matrix(g api.Graph) [][]bool {
	m := make([][]bool, g.N)
	for i := range m {
		m[i] = make([]bool, g.N)
	}
	for _, p := range g.L {
		m[p.From][p.To] = true
	}
	return m
}

// slowReach returns which node reaches which one, by sequences of attacks through ever more nodes.
func slowReach(g api.Graph) [][]bool {
	m := matrix(g)
	for i := range m {
		m[i][i] = true
	}
	for k := range m {
		for i := range m {
			for j := range m {
				m[i][j] = m[i][j] || m[i][k] && m[k][j]
			}
		}
	}
	return m
}

// nodesWith returns the nodes with a property, ascending.
func nodesWith(g api.Graph, property func(k int) bool) []int {
	var l []int
	for k := range g.N {
		if property(k) {
			l = append(l, k)
		}
	}
	return l
}

func TestNeighboursAsTheChapterSays(t *testing.T) {
	for g := range randomGraphs(103, 5000) {
		attacks, reaches := matrix(g), slowReach(g)
		for i := range g.N {
			if l := Attackers(g, i); !slices.Equal(l, nodesWith(g, func(k int) bool { return attacks[k][i] })) {
				t.Fatalf("%v: attackers of %d: %v", g, i, l)
			}
			if l := Attacked(g, i); !slices.Equal(l, nodesWith(g, func(k int) bool { return attacks[i][k] })) {
				t.Fatalf("%v: attacked by %d: %v", g, i, l)
			}
			if l := Reach(g, i); !slices.Equal(l, nodesWith(g, func(k int) bool { return reaches[i][k] })) {
				t.Fatalf("%v: reached from %d: %v", g, i, l)
			}
			for k := range g.N {
				if Has(g, i, k) != attacks[i][k] {
					t.Fatalf("%v: %d and %d", g, i, k)
				}
			}
		}
	}
}

func TestReachInTheGreatestGraphs(t *testing.T) {
	back := Reverse(chain(api.MaxNodes))
	for i := range api.MaxNodes {
		if l := Reach(chain(api.MaxNodes), i); len(l) != api.MaxNodes-i || l[0] != i {
			t.Errorf("chain: %d: %v", i, l)
		}
		if l := Reach(back, i); len(l) != i+1 || l[i] != i {
			t.Errorf("chain back: %d: %v", i, l)
		}
		if a, b := Reach(cycle(api.MaxNodes), i), Reach(full(api.MaxNodes), i); len(a) != api.MaxNodes || len(b) != api.MaxNodes {
			t.Errorf("%d: %v and %v", i, a, b)
		}
	}
}

// P10.4

func TestInducedOfSomeNodes(t *testing.T) {
	g := of(5, 0, 1, 1, 2, 2, 2, 2, 4, 4, 0)
	for _, x := range []struct {
		g     api.Graph
		nodes []int
		want  api.Graph
	}{
		{g, nil, of(0)}, {g, []int{}, of(0)}, {g, []int{3}, of(1)}, {g, []int{2}, of(1, 0, 0)}, {g, []int{0, 3}, of(2)}, {g, []int{1, 2}, of(2, 0, 1, 1, 1)},
		{g, []int{0, 1, 2, 3, 4}, g}, {g, []int{0, 4}, of(2, 1, 0)}, {g, []int{0, 2, 3, 4}, of(4, 1, 1, 1, 3, 3, 0)},
		// in any order, and more than once
		{g, []int{2, 1}, of(2, 0, 1, 1, 1)}, {g, []int{4, 3, 2, 1, 0}, g}, {g, []int{4, 0, 4, 4, 0}, of(2, 1, 0)}, {g, []int{2, 2}, of(1, 0, 0)},
		// with numbers that are not nodes
		{g, []int{5}, of(0)}, {g, []int{-1, 5}, of(0)}, {g, wrong, of(0)}, {g, append([]int{2, 5}, append(wrong, 1, -1)...), of(2, 0, 1, 1, 1)},
		{of(0), []int{0, 1}, of(0)}, {of(1), []int{0, 1}, of(1)},
		{full(40), []int{39, 0, 20, 40}, full(3)}, {chain(40), []int{39, 37, 38}, chain(3)}, {cycle(40), []int{39, 0}, of(2, 1, 0)}, {cycle(40), []int{38, 0, 2}, of(3)},
		// the example of the chapter
		{of(4, 0, 1, 1, 0, 1, 2, 3, 3), []int{2, 1}, of(2, 0, 1)},
	} {
		if got := Induced(x.g, x.nodes); got.N != x.want.N || !slices.Equal(got.L, x.want.L) {
			t.Errorf("%v, %v: %v", x.g, x.nodes, got)
		}
	}
}

func TestInducedAsTheChapterSays(t *testing.T) {
	random := rand.New(rand.NewSource(104))
	for g := range randomGraphs(105, 5000) {
		var nodes []int
		for range random.Intn(g.N + 5) {
			nodes = append(nodes, random.Intn(g.N+4)-2)
		}
		names := nodesWith(g, func(k int) bool { return slices.Contains(nodes, k) })
		attacks := matrix(g)
		want := where(len(names), func(from, to int) bool { return attacks[names[from]][names[to]] })
		got := Induced(g, nodes)
		if got.N != want.N || !slices.Equal(got.L, want.L) || Validate(got) != api.OK {
			t.Fatalf("%v, %v: %v", g, nodes, got)
		}
	}
}

func TestReverseOfSomeGraphs(t *testing.T) {
	for _, x := range []struct{ g, want api.Graph }{
		{of(0), of(0)}, {of(40), of(40)}, {of(1, 0, 0), of(1, 0, 0)}, {of(2, 0, 1), of(2, 1, 0)}, {of(2, 0, 1, 1, 0), of(2, 0, 1, 1, 0)},
		{of(3, 0, 1, 0, 2, 1, 2), of(3, 1, 0, 2, 0, 2, 1)}, {of(4, 0, 3, 1, 2, 2, 2, 2, 3), of(4, 2, 1, 2, 2, 3, 0, 3, 2)}, {of(12, 2, 10, 9, 1, 10, 0), of(12, 0, 10, 1, 9, 10, 2)},
		{of(4, 0, 1, 1, 0, 1, 2, 3, 3), of(4, 0, 1, 1, 0, 2, 1, 3, 3)}, {of(40, 0, 39), of(40, 39, 0)}, {full(40), full(40)},
	} {
		if got := Reverse(x.g); got.N != x.want.N || !slices.Equal(got.L, x.want.L) {
			t.Errorf("%v: %v", x.g, got)
		}
	}
}

func TestReverseAsTheChapterSays(t *testing.T) {
	for g := range randomGraphs(106, 5000) {
		attacks := matrix(g)
		want := where(g.N, func(from, to int) bool { return attacks[to][from] })
		got := Reverse(g)
		if got.N != g.N || !slices.Equal(got.L, want.L) {
			t.Fatalf("%v: %v", g, got)
		}
		if back := Reverse(got); back.N != g.N || !slices.Equal(back.L, g.L) {
			t.Fatalf("%v: %v", g, back)
		}
	}
}

func TestSame(t *testing.T) {
	different := []api.Graph{
		of(0), of(1), of(2), of(40), of(2, 0, 1), of(3, 0, 1), of(2, 1, 0), of(2, 0, 0), of(2, 0, 1, 1, 0), of(2, 0, 1, 1, 1), of(3, 0, 1, 1, 0), full(40), full(39), cycle(40), chain(40),
	}
	for _, x := range faulty {
		different = append(different, x.g)
	}
	different = append(different, of(2, 1, 0, 0, 1), of(2, 0, 1, 0, 1), of(7, 9, 9), of(-7))
	for i, a := range different {
		for k, b := range different {
			copied := api.Graph{N: b.N, L: append([]api.Pair{}, b.L...)}
			if Same(a, copied) != (i == k) {
				t.Errorf("%v and %v", a, b)
			}
		}
	}
	if !Same(api.Graph{}, api.Graph{L: []api.Pair{}}) || !Same(api.Graph{N: -3, L: []api.Pair{}}, of(-3)) {
		t.Error("a nil list and an empty one are not the same")
	}
}

// R1, R2

func TestAVeryLongList(t *testing.T) {
	g := of(40)
	for k := range 1 << 20 {
		g.L = append(g.L, api.Pair{From: k / 40, To: k % 40})
	}
	if err := Validate(g); err != api.ErrRange || Has(g, 0, 0) || len(Components(g)) > 0 || !Same(g, g) {
		t.Errorf("%d", err)
	}
	nodes := make([]int, 1<<20)
	for k := range nodes {
		nodes[k] = k * 7 % 50
	}
	if part := Induced(full(40), nodes); !Same(part, full(40)) {
		t.Errorf("%v", part)
	}
}

func TestTheFunctionsLeaveTheirArguments(t *testing.T) {
	whole := of(6, 0, 1, 1, 0, 1, 2, 3, 3, 4, 5, 5, 4, 0, 0, 9, 9)
	g := api.Graph{N: whole.N, L: whole.L[:6]}
	nodes := []int{5, 4, 1, 0, 1, -3, 2, 9}
	attacks, numbers := slices.Clone(whole.L), slices.Clone(nodes)
	for range 2 {
		for _, l := range [][]int{Attackers(g, 1), Attacked(g, 1), Reach(g, 1), Components(g)[0], Components(g)[3]} {
			overwrite(l)
		}
		for _, h := range []api.Graph{Reverse(g), Induced(g, nodes[:6]), Induced(g, []int{0, 1, 2, 3, 4, 5}), Reverse(of(1, 0, 0))} {
			for k := range h.L[:cap(h.L)] {
				h.L[:cap(h.L)][k] = api.Pair{From: 77, To: 78}
			}
		}
	}
	if !slices.Equal(whole.L, attacks) || !slices.Equal(nodes, numbers) {
		t.Errorf("changed: %v, %v", whole, nodes)
	}
	if got := Attacked(g, 1); !slices.Equal(got, []int{0, 2}) {
		t.Errorf("%v", got)
	}
}

func overwrite(l []int) {
	for k := range l[:cap(l)] {
		l[:cap(l)][k] = 77
	}
}

func TestComponentsShareNoMemory(t *testing.T) {
	for _, g := range []api.Graph{of(40), chain(40), of(6, 0, 1, 1, 0, 2, 3, 3, 2, 4, 5, 5, 4), cycle(40)} {
		want := Components(g)
		got := Components(g)
		for k := range got {
			others := slices.Concat(got[k+1:]...)
			overwrite(got[k])
			if !slices.Equal(slices.Concat(got[k+1:]...), others) {
				t.Errorf("%d nodes: the components from %d on are changed", g.N, k+1)
			}
		}
		if again := Components(g); !slices.EqualFunc(again, want, slices.Equal) {
			t.Errorf("%v instead of %v", again, want)
		}
	}
}
