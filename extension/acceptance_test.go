package extension

import (
	"math"
	"math/rand"
	"slices"
	"testing"

	"deliberation/api"
)

// P15.2

func TestSomeAndAllOfSomeLists(t *testing.T) {
	mixed := lists(list(in, out, in, und), list(in, und, out), list(in, in, out, in, in))
	odd := lists(list(in, 0, 4, -1, 9, math.MaxInt, math.MinInt), list(in, 17, in, 1<<32+in))
	for i, x := range []struct {
		l         [][]int
		i         int
		some, all bool
	}{
		// no list, and lists without elements
		{nil, 0, false, true}, {nil, -1, false, true}, {nil, 5, false, true}, {nil, math.MinInt, false, true}, {lists(), 0, false, true}, {lists(nil), 0, false, false}, {lists(nil), -1, false, false}, {lists(list(), list()), 0, false, false},
		// one list
		{lists(list(in)), 0, true, true}, {lists(list(out)), 0, false, false}, {lists(list(und)), 0, false, false}, {lists(list(out, in)), 1, true, true}, {lists(list(out, in)), 0, false, false}, {lists(list(in, out)), 1, false, false},
		// several: In in all of them, in some or in none
		{mixed, 0, true, true}, {mixed, 1, true, false}, {mixed, 2, true, false}, {lists(list(out), list(und)), 0, false, false}, {lists(list(in), list(out)), 0, true, false}, {lists(list(out), list(in)), 0, true, false}, {lists(list(in), list(und), list(in)), 0, true, false}, {lists(list(in, in), list(in, in), list(in, in)), 1, true, true},
		// lists without the element
		{mixed, 3, true, false}, {mixed, 4, true, false}, {mixed, 5, false, false}, {mixed, -1, false, false}, {mixed, math.MaxInt, false, false}, {mixed, math.MinInt, false, false}, {mixed, 1 << 32, false, false}, {lists(nil, list(in)), 0, true, false}, {lists(list(in), nil), 0, true, false},
		// elements that are no labels
		{odd, 0, true, true}, {odd, 1, false, false}, {odd, 2, true, false}, {odd, 3, false, false}, {odd, 4, false, false}, {odd, 5, false, false}, {odd, 6, false, false},
		// more lists than a search finds, and longer ones than a graph has nodes
		{slices.Repeat(lists(list(out, in)), 1000), 1, true, true}, {append(slices.Repeat(lists(list(in)), 1000), list(out)), 0, true, false}, {append(slices.Repeat(lists(list(out)), 1000), list(in)), 0, true, false}, {lists(pattern(1000, out, in)), 999, true, true}, {lists(pattern(1000, out, in)), 998, false, false}, {lists(pattern(1000, in)), 1000, false, false},
	} {
		if some, all := Some(x.l, x.i), All(x.l, x.i); some != x.some || all != x.all {
			t.Errorf("lists %d: %v, %v", i, some, all)
		}
	}
}

func TestSomeAndAllOfRandomLists(t *testing.T) {
	random := rand.New(rand.NewSource(159))
	counts := [2]int{}
	for range 5000 {
		l := make([][]int, random.Intn(4))
		for k := range l {
			for range random.Intn(5) {
				l[k] = append(l[k], random.Intn(6)-1, in)
			}
		}
		before := make([][]int, len(l))
		for k := range l {
			before[k] = slices.Clone(l[k])
		}
		for i := -2; i < 12; i++ {
			accepting := 0
			for _, labels := range l {
				for k, label := range labels {
					if k == i && label == in {
						accepting++
					}
				}
			}
			if Some(l, i) != (accepting > 0) || All(l, i) != (accepting == len(l)) {
				t.Fatalf("%v, %d: %v, %v", l, i, Some(l, i), All(l, i))
			}
			if accepting > 0 {
				counts[0]++
				if accepting < len(l) {
					counts[1]++
				}
			}
		}
		if !same(l, before) {
			t.Fatalf("%v is changed to %v", before, l)
		}
	}
	if min(counts[0], counts[1]) < 1000 {
		t.Errorf("%d elements only", counts)
	}
}

// The labellings of the second example: which nodes stand in some, and which in all of them.
func TestSomeAndAllOfFoundLabellings(t *testing.T) {
	g := join(choice, of(1))
	for k, want := range []struct{ some, all []int }{{list(0, 1, 3), list(3)}, {list(1, 3), list(1, 3)}, {list(1, 3), list(1, 3)}} {
		found, err := kinds[k].find(g)
		for i := -1; i <= g.N; i++ {
			if err != api.OK || Some(found, i) != slices.Contains(want.some, i) || All(found, i) != slices.Contains(want.all, i) {
				t.Errorf("%s: %d: %v, %v", kinds[k].name, i, Some(found, i), All(found, i))
			}
		}
	}
	// with no stable labelling, a node is In in all of them, and in none
	if found, err := Stable(cycle(3)); err != api.OK || Some(found, 0) || !All(found, 0) {
		t.Errorf("%d, %v", err, found)
	}
}
