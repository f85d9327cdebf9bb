package graph

import (
	"slices"
	"testing"

	"deliberation/api"
)

// P10.3

func TestComponentsOfSomeGraphs(t *testing.T) {
	for _, x := range []struct {
		g    api.Graph
		want [][]int
	}{
		{of(0), nil}, {of(1), [][]int{{0}}}, {of(1, 0, 0), [][]int{{0}}}, {of(3), [][]int{{0}, {1}, {2}}},
		{of(2, 0, 1), [][]int{{0}, {1}}}, {of(2, 1, 0), [][]int{{1}, {0}}}, {of(2, 0, 1, 1, 0), [][]int{{0, 1}}},
		{of(3, 1, 0, 2, 1), [][]int{{2}, {1}, {0}}}, {of(3, 0, 1, 1, 2, 2, 0), [][]int{{0, 1, 2}}}, {of(3, 0, 2, 1, 0, 2, 1), [][]int{{0, 1, 2}}},
		// a node that attacks itself is not attacked by another component
		{of(3, 0, 0, 1, 1, 2, 2), [][]int{{0}, {1}, {2}}}, {of(3, 0, 0, 1, 0, 1, 1), [][]int{{1}, {0}, {2}}},
		// the least node first of those that are free, and what becomes free at once, before greater ones
		{of(4, 3, 0), [][]int{{1}, {2}, {3}, {0}}}, {of(4, 1, 0), [][]int{{1}, {0}, {2}, {3}}}, {of(4, 2, 0, 3, 1), [][]int{{2}, {0}, {3}, {1}}},
		{of(5, 3, 0, 4, 1), [][]int{{2}, {3}, {0}, {4}, {1}}}, {of(5, 1, 0, 2, 0, 4, 3), [][]int{{1}, {2}, {0}, {4}, {3}}},
		{of(4, 0, 1, 0, 2, 1, 3, 2, 3), [][]int{{0}, {1}, {2}, {3}}}, {of(4, 0, 2, 0, 3, 2, 1, 3, 1), [][]int{{0}, {2}, {3}, {1}}},
		{of(6, 0, 5, 1, 4, 2, 3, 5, 2), [][]int{{0}, {1}, {4}, {5}, {2}, {3}}},
		// the least node of a component counts, and neither its greatest one nor its size
		{of(4, 0, 3, 3, 0), [][]int{{0, 3}, {1}, {2}}}, {of(4, 1, 3, 3, 1), [][]int{{0}, {1, 3}, {2}}}, {of(5, 0, 4, 1, 3, 3, 1, 4, 0), [][]int{{0, 4}, {1, 3}, {2}}},
		{of(5, 1, 2, 2, 1, 3, 4, 4, 3), [][]int{{0}, {1, 2}, {3, 4}}},
		// components that attack each other
		{of(5, 0, 2, 1, 3, 2, 4, 3, 1, 4, 0, 4, 1), [][]int{{0, 2, 4}, {1, 3}}}, {of(5, 0, 2, 1, 0, 1, 3, 2, 4, 3, 1, 4, 0), [][]int{{1, 3}, {0, 2, 4}}},
		{of(6, 0, 1, 1, 2, 2, 0, 2, 3, 3, 4, 4, 5, 5, 3), [][]int{{0, 1, 2}, {3, 4, 5}}}, {of(6, 0, 1, 1, 2, 2, 0, 3, 4, 4, 5, 5, 2, 5, 3), [][]int{{3, 4, 5}, {0, 1, 2}}},
		{of(6, 0, 1, 1, 0, 2, 0, 2, 3, 3, 2, 4, 3, 4, 5, 5, 4), [][]int{{4, 5}, {2, 3}, {0, 1}}},
		// cycles with a common node, and a cycle in a cycle
		{of(5, 0, 1, 1, 0, 1, 2, 2, 3, 3, 1, 3, 4), [][]int{{0, 1, 2, 3}, {4}}}, {of(4, 0, 1, 1, 0, 1, 2, 2, 3, 3, 0), [][]int{{0, 1, 2, 3}}},
		// a search that begins in the middle, and one that meets a completed component again
		{of(4, 0, 1, 2, 0, 2, 1, 3, 2), [][]int{{3}, {2}, {0}, {1}}}, {of(5, 0, 1, 2, 3, 3, 1, 3, 2, 4, 2), [][]int{{0}, {4}, {2, 3}, {1}}},
		// the example of the chapter
		{of(4, 0, 1, 1, 0, 1, 2, 3, 3), [][]int{{0, 1}, {2}, {3}}},
	} {
		if got := Components(x.g); !slices.EqualFunc(got, x.want, slices.Equal) {
			t.Errorf("%v: %v instead of %v", x.g, got, x.want)
		}
	}
}

func TestComponentsOfTheGreatestGraphs(t *testing.T) {
	var all []int
	var up, down [][]int
	for i := range api.MaxNodes {
		all = append(all, i)
		up = append(up, []int{i})
		down = append(down, []int{api.MaxNodes - 1 - i})
	}
	for i, x := range []struct {
		g    api.Graph
		want [][]int
	}{
		{of(40), up}, {chain(40), up}, {Reverse(chain(40)), down}, {cycle(40), [][]int{all}}, {Reverse(cycle(40)), [][]int{all}}, {full(40), [][]int{all}},
		{where(40, func(from, to int) bool { return from < to }), up}, {where(40, func(from, to int) bool { return from >= to }), down},
		{where(40, func(from, to int) bool { return from == to+1 || from == 0 && to == 39 }), [][]int{all}},
	} {
		if got := Components(x.g); !slices.EqualFunc(got, x.want, slices.Equal) {
			t.Errorf("graph %d: %v", i, got)
		}
	}
	odd := where(40, func(from, to int) bool { return from%2 == to%2 })
	if got := Components(odd); len(got) != 2 || len(got[0]) != 20 || got[0][0] != 0 || got[1][19] != 39 {
		t.Errorf("%v", got)
	}
}

// slowComponents takes the sentence of P10.3 at its word: at each place, it looks for the least node of a free component that is not listed.
func slowComponents(g api.Graph) [][]int {
	reaches, attacks := slowReach(g), matrix(g)
	listed := map[int]bool{}
	isFree := func(c []int) bool {
		return !slices.ContainsFunc(nodesWith(g, func(k int) bool { return !listed[k] && !slices.Contains(c, k) }), func(k int) bool {
			return slices.ContainsFunc(c, func(i int) bool { return attacks[k][i] })
		})
	}
	var l [][]int
	for len(listed) < g.N {
		for i := range g.N {
			c := nodesWith(g, func(k int) bool { return reaches[i][k] && reaches[k][i] })
			if listed[i] || !isFree(c) {
				continue
			}
			for _, k := range c {
				listed[k] = true
			}
			l = append(l, c)
			break
		}
	}
	return l
}

func TestComponentsAsTheChapterSays(t *testing.T) {
	several := 0
	for g := range randomGraphs(107, 5000) {
		got := Components(g)
		if want := slowComponents(g); !slices.EqualFunc(got, want, slices.Equal) {
			t.Fatalf("%v: %v instead of %v", g, got, want)
		}
		if len(got) > 1 && len(got) < g.N {
			several++
		}
	}
	if several < 500 {
		t.Errorf("%d graphs only with a component of several nodes among others", several)
	}
}

func TestComponentsOfAllGraphsOfThreeNodes(t *testing.T) {
	for set := range 1 << 9 {
		g := where(3, func(from, to int) bool { return set>>(3*from+to)&1 == 1 })
		if got, want := Components(g), slowComponents(g); !slices.EqualFunc(got, want, slices.Equal) {
			t.Fatalf("%v: %v instead of %v", g, got, want)
		}
	}
}

// The consequences.

func TestEveryNodeIsInOneComponent(t *testing.T) {
	for g := range randomGraphs(108, 2000) {
		place := map[int]int{}
		for n, c := range Components(g) {
			for k, i := range c {
				if _, ok := place[i]; ok || k > 0 && c[k-1] >= i {
					t.Fatalf("%v: node %d", g, i)
				}
				place[i] = n
			}
		}
		if len(place) != g.N {
			t.Fatalf("%v: %v", g, place)
		}
		for _, p := range g.L {
			if place[p.From] > place[p.To] {
				t.Fatalf("%v: %v leads to an earlier component", g, p)
			}
		}
		for i := range g.N {
			for k := range g.N {
				both := slices.Contains(Reach(g, i), k) && slices.Contains(Reach(g, k), i)
				if both != (place[i] == place[k]) {
					t.Fatalf("%v: %d and %d", g, i, k)
				}
			}
		}
	}
}

func TestAReversedGraphHasTheSameComponents(t *testing.T) {
	for g := range randomGraphs(109, 2000) {
		l, turned := Components(g), Components(Reverse(g))
		slices.SortFunc(l, slices.Compare[[]int])
		slices.SortFunc(turned, slices.Compare[[]int])
		if !slices.EqualFunc(l, turned, slices.Equal) {
			t.Fatalf("%v: %v and %v", g, l, turned)
		}
	}
}
