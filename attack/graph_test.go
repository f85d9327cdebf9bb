package attack

import (
	"math"
	"math/rand"
	"slices"
	"testing"

	"deliberation/api"
)

// P9.2

// at returns attacks from pairs of numbers, with Subs and Kinds that do not matter.
func at(numbers ...int) []api.Attack {
	var l []api.Attack
	for k := 0; k < len(numbers); k += 2 {
		l = append(l, api.Attack{From: numbers[k], To: numbers[k+1], Sub: 100 - 3*k, Kind: k - 2})
	}
	return l
}

func pairs(numbers ...int) []api.Pair {
	var l []api.Pair
	for k := 0; k < len(numbers); k += 2 {
		l = append(l, api.Pair{From: numbers[k], To: numbers[k+1]})
	}
	return l
}

func TestGraphOfSomeAttacks(t *testing.T) {
	for i, x := range []struct {
		n    int
		l    []api.Attack
		want []api.Pair
	}{
		{0, nil, nil}, {0, []api.Attack{}, nil}, {1, nil, nil}, {api.MaxNodes, nil, nil},
		{1, at(0, 0), pairs(0, 0)}, {2, at(0, 1), pairs(0, 1)}, {2, at(1, 0), pairs(1, 0)},
		{40, at(39, 39, 0, 39, 39, 0), pairs(0, 39, 39, 0, 39, 39)},
		// sorted by From, then To
		{3, at(2, 0, 1, 2, 0, 2, 1, 0, 0, 1, 2, 1), pairs(0, 1, 0, 2, 1, 0, 1, 2, 2, 0, 2, 1)},
		{12, at(10, 2, 9, 11, 2, 10), pairs(2, 10, 9, 11, 10, 2)},
		// each pair once, wherever and however it attacks
		{2, []api.Attack{{From: 0, To: 1, Sub: 1, Kind: api.Rebut}, {From: 0, To: 1, Sub: 1, Kind: api.Undercut}, {From: 0, To: 1, Sub: 0, Kind: api.Undermine}}, pairs(0, 1)},
		{3, at(1, 2, 0, 1, 1, 2, 2, 2, 0, 1, 1, 2), pairs(0, 1, 1, 2, 2, 2)},
		// Sub and Kind are not looked at
		{2, []api.Attack{{From: 1, To: 0, Sub: -5, Kind: 77}, {From: 0, To: 1, Sub: math.MaxInt, Kind: math.MinInt}}, pairs(0, 1, 1, 0)},
	} {
		g, err := Graph(x.n, x.l)
		if err != api.OK || g.N != x.n || !slices.Equal(g.L, x.want) {
			t.Errorf("attacks %d: %v, %d", i, g, err)
		}
	}
}

func TestGraphOutOfRange(t *testing.T) {
	for i, x := range []struct {
		n int
		l []api.Attack
	}{
		{-1, nil}, {api.MaxNodes + 1, nil}, {math.MaxInt, nil}, {math.MinInt, nil}, {1 << 32, nil}, {1<<32 + 5, nil},
		{-1, at(0, 0)}, {41, at(0, 40)},
		{0, at(0, 0)}, {1, at(0, 1)}, {1, at(1, 0)}, {40, at(40, 0)}, {40, at(0, 40)},
		{3, at(-1, 0)}, {3, at(0, -1)}, {3, at(-1, -1)}, {3, at(3, 3)},
		{3, at(math.MinInt, 0)}, {3, at(0, math.MaxInt)}, {3, at(1<<32, 1<<32)},
		{3, at(0, 1, 1, 2, 2, 3)}, {3, at(3, 2, 0, 1)}, {3, at(0, 1, 2, -1, 1, 2)},
	} {
		if g, err := Graph(x.n, x.l); err != api.ErrRange || g.N != 0 || len(g.L) > 0 {
			t.Errorf("attacks %d: %v, %d", i, g, err)
		}
	}
}

func TestGraphAsTheChapterSays(t *testing.T) {
	random := rand.New(rand.NewSource(98))
	for range 2000 {
		n := 1 + random.Intn(api.MaxNodes)
		var l []api.Attack
		for range random.Intn(60) {
			l = append(l, api.Attack{From: random.Intn(n), To: random.Intn(n), Sub: random.Intn(3), Kind: random.Intn(4)})
		}
		var want []api.Pair
		for from := range n {
			for to := range n {
				if slices.ContainsFunc(l, func(a api.Attack) bool { return a.From == from && a.To == to }) {
					want = append(want, api.Pair{From: from, To: to})
				}
			}
		}
		g, err := Graph(n, l)
		if err != api.OK || g.N != n || !slices.Equal(g.L, want) {
			t.Fatalf("%d, %v: %v, %d", n, l, g, err)
		}
		if len(l) == 0 {
			continue
		}
		k := random.Intn(len(l))
		wrong := []int{n, -1, n + random.Intn(100)}[random.Intn(3)]
		if random.Intn(2) == 0 {
			l[k].From = wrong
		} else {
			l[k].To = wrong
		}
		if g, err := Graph(n, l); err != api.ErrRange || g.N != 0 || len(g.L) > 0 {
			t.Fatalf("%d, %v: %v, %d", n, l, g, err)
		}
	}
}

func TestGraphOfRuleBases(t *testing.T) {
	for b, l := range randomBuilt(99, 500) {
		for _, o := range orderings {
			defeats := Defeats(b, l, o)
			g, err := Graph(len(l), defeats)
			if err != api.OK || g.N != len(l) {
				t.Fatalf("%+v: %v, %d", b, g, err)
			}
			for from := range l {
				for to := range l {
					defeat := func(a api.Attack) bool { return a.From == from && a.To == to }
					if slices.Contains(g.L, api.Pair{From: from, To: to}) != slices.ContainsFunc(defeats, defeat) {
						t.Fatalf("%+v: %d and %d: %v", b, from, to, g)
					}
				}
			}
		}
	}
}

func TestGraphOfAVeryLongList(t *testing.T) {
	l := make([]api.Attack, 1<<20)
	for k := range l {
		l[k] = api.Attack{From: k * 7 % 40, To: k * 11 % 40, Sub: k, Kind: -k}
	}
	g, err := Graph(40, l)
	if err != api.OK || len(g.L) != 40 {
		t.Errorf("%d pairs, %d", len(g.L), err)
	}
	l[len(l)-1].To = 40
	if g, err := Graph(40, l); err != api.ErrRange || g.N != 0 || len(g.L) > 0 {
		t.Errorf("%v, %d", g, err)
	}
}

// R2

func TestGraphLeavesItsArguments(t *testing.T) {
	l := at(3, 2, 0, 1, 3, 2, 1, 1, 9, 9)
	before := slices.Clone(l)
	first, _ := Graph(5, l[:4])
	second, _ := Graph(5, l[:4])
	for k := range first.L[:cap(first.L)] {
		first.L[:cap(first.L)][k] = api.Pair{From: 77, To: 78}
	}
	if !slices.Equal(second.L, pairs(0, 1, 1, 1, 3, 2)) || !slices.Equal(l, before) {
		t.Errorf("%v from %v", second, l)
	}
	if _, err := Graph(5, l); err != api.ErrRange || !slices.Equal(l, before) {
		t.Errorf("%v, %d", l, err)
	}
}
