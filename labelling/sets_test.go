package labelling

import (
	"math"
	"math/rand"
	"slices"
	"testing"

	"deliberation/api"
	"deliberation/graph"
)

// P11.2

func TestWithALabel(t *testing.T) {
	l := list(in, out, in, und, 7, in, -2, math.MinInt, math.MaxInt, 0, 7)
	for _, x := range []struct {
		l     []int
		label int
		want  []int
	}{
		{l, in, list(0, 2, 5)}, {l, out, list(1)}, {l, und, list(3)}, {l, 7, list(4, 10)}, {l, -2, list(6)}, {l, 0, list(9)}, {l, math.MinInt, list(7)}, {l, math.MaxInt, list(8)},
		{l, 4, nil}, {l, -1, nil}, {l, 1<<32 + 1, nil}, {nil, in, nil}, {nil, 0, nil}, {list(), out, nil}, {list(in), in, list(0)}, {list(in), out, nil}, {list(und, und, und), und, list(0, 1, 2)},
		{append(pattern(40, out), in), in, list(40)}, {append(pattern(1000, und), 5), 5, list(1000)},
	} {
		if got := With(x.l, x.label); !slices.Equal(got, x.want) {
			t.Errorf("%v: %d: %v", x.l, x.label, got)
		}
	}
}

func TestWithAsTheChapterSays(t *testing.T) {
	random := rand.New(rand.NewSource(113))
	for range 2000 {
		l := randomList(random, random.Intn(60), append(list(in, out, und, in, out, und), noLabels...)...)
		total := 0
		for _, label := range append(list(in, out, und), noLabels...) {
			indices := With(l, label)
			total += len(indices)
			for k, i := range indices {
				if l[i] != label || k > 0 && indices[k-1] >= i {
					t.Fatalf("%v: %d: %v", l, label, indices)
				}
			}
		}
		if total != len(l) {
			t.Fatalf("%v: %d indices", l, total)
		}
	}
}

func TestFromSomeSets(t *testing.T) {
	g := of(5, 0, 1, 1, 2, 2, 0, 2, 2, 3, 4)
	for _, x := range []struct {
		g   api.Graph
		set []int
		l   []int
	}{
		{g, nil, list(und, und, und, und, und)}, {g, list(), list(und, und, und, und, und)}, {g, list(0), list(in, out, und, und, und)}, {g, list(4), list(und, und, und, und, in)},
		{g, list(3), list(und, und, und, in, out)}, {g, list(3, 0), list(in, out, und, in, out)},
		// In comes before Out: a node of the set that attacks itself, or that another one attacks
		{g, list(2), list(out, und, in, und, und)}, {g, list(0, 1), list(in, in, out, und, und)}, {g, list(1, 0), list(in, in, out, und, und)}, {g, list(3, 4), list(und, und, und, in, in)},
		{g, list(0, 1, 2, 3, 4), list(in, in, in, in, in)}, {g, list(4, 3, 2, 1, 0), list(in, in, in, in, in)}, {of(1, 0, 0), list(0), list(in)}, {of(2, 0, 0, 0, 1), list(0), list(in, out)},
		{of(2, 0, 1, 1, 0), list(0), list(in, out)}, {of(2, 0, 1, 1, 0), list(1), list(out, in)}, {of(2, 0, 1, 1, 0), list(0, 1), list(in, in)},
		// a node that a node attacks that is Out
		{chain(4), list(0), list(in, out, und, und)}, {chain(4), list(1), list(und, in, out, und)}, {chain(4), list(0, 2), list(in, out, in, out)}, {of(4, 2, 1, 3, 2), list(3), list(und, und, out, in)},
		// repetitions, and numbers that are not nodes
		{g, list(1, 0, 1, 1), list(in, in, out, und, und)}, {g, list(-1, 5, 99, 4), list(und, und, und, und, in)}, {g, noNodes, list(und, und, und, und, und)}, {g, append(slices.Clone(noNodes), 3), list(und, und, und, in, out)},
		{of(0), nil, nil}, {of(0), list(0, 1, -1), nil}, {of(1), list(0, 1), list(in)}, {of(1), list(1), list(und)}, {of(3), list(3, 1), list(und, in, und)},
		// the greatest graphs
		{of(40), list(39, 40), append(pattern(39, und), in)}, {full(40), list(39), append(pattern(39, out), in)}, {full(40), list(0), append(list(in), pattern(39, out)...)}, {chain(40), list(0, 38), append(append(list(in, out), pattern(36, und)...), in, out)},
		{cycle(40), list(39), append(append(list(out), pattern(38, und)...), in)},
		// the example of the chapter
		{chain(3), list(2), list(und, und, in)},
	} {
		if got := FromSet(x.g, x.set); !slices.Equal(got, x.l) {
			t.Errorf("%v: %v: %v instead of %v", x.g, x.set, got, x.l)
		}
	}
}

// slowFromSet takes the sentence of P11.2 at its word.
func slowFromSet(g api.Graph, set []int) []int {
	var l []int
	for i := range g.N {
		switch {
		case slices.Contains(set, i):
			l = append(l, in)
		case slices.ContainsFunc(set, func(k int) bool { return graph.Has(g, k, i) }):
			l = append(l, out)
		default:
			l = append(l, und)
		}
	}
	return l
}

func TestFromSetAsTheChapterSays(t *testing.T) {
	for g := range smallGraphs {
		for bits := range 1 << g.N {
			set := With(list(bits&1, bits>>1&1, bits>>2), 1)
			if got, want := FromSet(g, set), slowFromSet(g, set); !slices.Equal(got, want) {
				t.Fatalf("%v: %v: %v instead of %v", g, set, got, want)
			}
		}
	}
	random := rand.New(rand.NewSource(114))
	for range 5000 {
		g := randomGraph(random)
		var set []int
		for range random.Intn(g.N/2 + 3) {
			set = append(set, random.Intn(g.N+4)-2)
		}
		got, want := FromSet(g, set), slowFromSet(g, set)
		if !slices.Equal(got, want) || !Valid(g, got) {
			t.Fatalf("%v: %v: %v instead of %v", g, set, got, want)
		}
	}
}

// A consequence.

func TestACompleteLabellingComesBackFromItsSet(t *testing.T) {
	check := func(g api.Graph, l []int) {
		t.Helper()
		if back := FromSet(g, With(l, in)); !slices.Equal(back, l) {
			t.Fatalf("%v: %v instead of %v", g, back, l)
		}
	}
	for g := range smallGraphs {
		for _, l := range labellings(g.N) {
			if IsComplete(g, l) {
				check(g, l)
			}
		}
	}
	random := rand.New(rand.NewSource(115))
	for range 2000 {
		g := randomGraph(random)
		if l := completed(g, randomList(random, g.N, in, out, und)); IsComplete(g, l) {
			check(g, l)
		}
	}
}

// R1, R2, R7

func TestGraphsThatAreNotValid(t *testing.T) {
	for i, g := range []api.Graph{
		of(-1), of(41), of(64), of(1 << 32), of(1<<32 + 3), of(math.MaxInt), of(math.MinInt), of(math.MaxInt, 0, 1), of(-1, 0, 0), of(0, 0, 0), of(3, 0, 3), of(3, 3, 0), of(3, -1, 0), of(3, 0, -1),
		of(3, math.MinInt, math.MaxInt), of(3, 1<<32, 1), of(3, 1, 0, 0, 1), of(3, 0, 1, 0, 1), of(3, 0, 1, 1, 2, 2, 99), of(41, 40, 40),
	} {
		for _, l := range append([][]int{nil, list(in), list(in, out, in), list(und, und, und), list(0, 9, -1), pattern(40, in), pattern(41, und), pattern(64, out)}, noNodes) {
			// nothing is specified, but that the functions come back
			Valid(g, l)
			Illegal(g, l)
			IsComplete(g, l)
			if n := len(FromSet(g, l)); n > api.MaxNodes+1 {
				t.Errorf("graph %d: %d elements", i, n)
			}
		}
	}
}

func TestVeryLongLists(t *testing.T) {
	const n = 1 << 20
	labels, other := pattern(n, in, out, und, 0), pattern(n, in, out, und, 1)
	if g := of(3, 0, 1, 1, 2); Valid(g, labels) || len(Illegal(g, labels)) > 0 || IsComplete(g, labels) || !slices.Equal(FromSet(g, labels), list(in, in, in)) {
		t.Error("as a labelling, and as a set")
	}
	if l := With(labels, und); len(l) != n/4 || l[0] != 2 || l[n/4-1] != n-2 {
		t.Errorf("%d with a label", len(l))
	}
	if l := Meet(labels, other); len(l) != n || !slices.Equal(l[n-4:], list(in, out, und, und)) || !LessCommitted(labels, other) || LessCommitted(other, labels) || Compare(labels, other) != -1 {
		t.Error("against another one")
	}
	long := of(40)
	for k := range n {
		long.L = append(long.L, api.Pair{From: k / 40, To: k % 40})
	}
	FromSet(long, labels)
	Illegal(long, pattern(40, in))
}

func overwrite(l []int) {
	for k := range l[:cap(l)] {
		l[:cap(l)][k] = 77
	}
}

func TestTheFunctionsLeaveTheirArguments(t *testing.T) {
	whole := of(4, 0, 1, 1, 2, 1, 3, 2, 2, 9, 9)
	g := api.Graph{N: whole.N, L: whole.L[:4]}
	a, b, set := list(in, in, out, out, 5, 6), list(in, und, in, out, 7, 8), list(2, 0, 2, -1, 1, 3)
	attacks, a0, b0, set0 := slices.Clone(whole.L), slices.Clone(a), slices.Clone(b), slices.Clone(set)
	for range 2 {
		x, y := a[:4], b[:4]
		Valid(g, x)
		IsComplete(g, x)
		LessCommitted(x, y)
		Compare(x, y)
		for _, l := range [][]int{Illegal(g, x), Illegal(g, y), With(x, in), With(y, out), FromSet(g, set[:4]), FromSet(g, nil), Meet(x, y), Meet(x, x), Meet(x, y[:2]), Meet(x[:1], y)} {
			overwrite(l)
		}
	}
	if !slices.Equal(whole.L, attacks) || !slices.Equal(a, a0) || !slices.Equal(b, b0) || !slices.Equal(set, set0) {
		t.Errorf("changed: %v, %v, %v, %v", whole.L, a, b, set)
	}
	if got := Illegal(g, a[:4]); !slices.Equal(got, list(1)) {
		t.Errorf("%v", got)
	}
	if got := FromSet(g, set[:4]); !slices.Equal(got, list(in, out, in, und)) {
		t.Errorf("%v", got)
	}
}
