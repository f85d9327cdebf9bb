package labelling

import (
	"math"
	"math/rand"
	"slices"
	"testing"
)

// P11.3

func TestSomePairsOfLists(t *testing.T) {
	for _, x := range []struct {
		a, b       []int
		less, more bool // a is less committed than b, b than a
		meet       []int
		compare    int
	}{
		{nil, nil, true, true, nil, 0}, {nil, list(), true, true, nil, 0}, {list(in), list(in), true, true, list(in), 0}, {list(out), list(out), true, true, list(out), 0}, {list(und), list(und), true, true, list(und), 0},
		{list(in), list(out), false, false, list(und), -1}, {list(in), list(und), false, true, list(und), -1}, {list(out), list(und), false, true, list(und), -1},
		{list(in, out), list(und, und), false, true, list(und, und), -1}, {list(in, und), list(in, out), true, false, list(in, und), 1}, {list(in, out), list(out, in), false, false, list(und, und), -1},
		{list(in, und), list(und, in), false, false, list(und, und), -1}, {list(in, out, und), list(in, out, in), true, false, list(in, out, und), 1}, {list(und, out, in), list(in, out, in), true, false, list(und, out, in), 1},
		{list(in, in, out), list(in, in, in), false, false, list(in, in, und), 1}, {list(out, in, in), list(in, in, in), false, false, list(und, in, in), 1},
		// the first difference decides, whatever comes after it
		{list(in, und, und), list(out, in, in), false, false, list(und, und, und), -1}, {list(out, in), list(in, und), false, false, list(und, und), 1},
		// other lengths
		{nil, list(in), false, false, nil, -1}, {nil, list(und), false, false, nil, -1}, {list(und), list(und, und), false, false, list(und), -1}, {list(in), list(in, und), false, false, list(in), -1},
		{list(out), list(in, in), false, false, list(und), 1}, {list(in, out), list(in, und, in), false, false, list(in, und), -1}, {list(in, und), list(in, out, in), false, false, list(in, und), 1}, {nil, list(math.MinInt), false, false, nil, -1},
		// lists with other elements: only In and Out commit
		{list(0), list(5), true, true, list(und), -1}, {list(7, 9), list(7, 1), true, false, list(7, und), 1}, {list(out), list(5), false, true, list(und), -1}, {list(5), list(in), true, false, list(und), 1}, {list(5), list(und), true, true, list(und), 1},
		{list(-4, in), list(-4, in), true, true, list(-4, in), 0}, {list(0, 0), list(0, 0), true, true, list(0, 0), 0}, {list(-1), list(in), true, false, list(und), -1}, {list(1<<32 + 1), list(in), true, false, list(und), 1},
		{list(math.MinInt), list(math.MaxInt), true, true, list(und), -1}, {list(math.MaxInt), list(-1), true, true, list(und), 1}, {list(math.MinInt), list(1), true, false, list(und), -1}, {list(math.MaxInt), list(math.MaxInt), true, true, list(math.MaxInt), 0},
	} {
		if less, more := LessCommitted(x.a, x.b), LessCommitted(x.b, x.a); less != x.less || more != x.more {
			t.Errorf("%v, %v: less committed: %v, %v", x.a, x.b, less, more)
		}
		if one, other := Meet(x.a, x.b), Meet(x.b, x.a); !slices.Equal(one, x.meet) || !slices.Equal(other, x.meet) {
			t.Errorf("%v, %v: meet: %v, %v", x.a, x.b, one, other)
		}
		if one, other := Compare(x.a, x.b), Compare(x.b, x.a); one != x.compare || other != -x.compare {
			t.Errorf("%v, %v: compare: %d, %d", x.a, x.b, one, other)
		}
	}
}

// slowLess takes the sentences of the chapter at their word.
func slowLess(a, b []int) bool {
	if len(a) != len(b) {
		return false
	}
	for i := range a {
		if a[i] == in && b[i] != in || a[i] == out && b[i] != out {
			return false
		}
	}
	return true
}

func slowMeet(a, b []int) []int {
	var l []int
	for i := 0; i < len(a) && i < len(b); i++ {
		if a[i] == b[i] {
			l = append(l, a[i])
		} else {
			l = append(l, und)
		}
	}
	return l
}

func slowCompare(a, b []int) int {
	switch {
	case len(a) == 0 && len(b) == 0:
		return 0
	case len(a) == 0 || len(b) > 0 && a[0] < b[0]:
		return -1
	case len(b) == 0 || a[0] > b[0]:
		return 1
	}
	return slowCompare(a[1:], b[1:])
}

func TestAnyListsAsTheChapterSays(t *testing.T) {
	random := rand.New(rand.NewSource(116))
	elements := append(list(in, out, und, in, out, und, in, out, und), noLabels...)
	var less, same, shorter int
	for range 20000 {
		a := randomList(random, random.Intn(7), elements...)
		b := slices.Clone(a)
		for range random.Intn(3) {
			if len(b) > 0 {
				b[random.Intn(len(b))] = elements[random.Intn(len(elements))]
			}
		}
		if random.Intn(4) == 0 {
			b = b[:random.Intn(len(b)+1)]
		}
		if LessCommitted(a, b) != slowLess(a, b) || LessCommitted(b, a) != slowLess(b, a) {
			t.Fatalf("%v, %v: less committed", a, b)
		}
		if got := Meet(a, b); !slices.Equal(got, slowMeet(a, b)) {
			t.Fatalf("%v, %v: meet: %v", a, b, got)
		}
		if Compare(a, b) != slowCompare(a, b) || Compare(b, a) != slowCompare(b, a) {
			t.Fatalf("%v, %v: compare: %d, %d", a, b, Compare(a, b), Compare(b, a))
		}
		less, same, shorter = less+count(slowLess(a, b)), same+count(slices.Equal(a, b)), shorter+count(len(b) < len(a))
	}
	if min(less-same, same, shorter) < 1000 {
		t.Errorf("%d, %d, %d", less, same, shorter)
	}
}

func count(holds bool) int {
	if holds {
		return 1
	}
	return 0
}

// The consequences.

func TestLessCommittedIsAPartialOrder(t *testing.T) {
	all := labellings(3)
	for _, a := range all {
		if !LessCommitted(a, a) || !LessCommitted(pattern(3, und), a) {
			t.Errorf("%v", a)
		}
		for _, b := range all {
			if LessCommitted(a, b) && LessCommitted(b, a) && !slices.Equal(a, b) {
				t.Errorf("%v and %v are less committed than each other", a, b)
			}
			for _, c := range all {
				if LessCommitted(a, b) && LessCommitted(b, c) && !LessCommitted(a, c) {
					t.Errorf("%v, %v, %v", a, b, c)
				}
			}
		}
	}
}

func TestMeetIsTheGreatestBelowBoth(t *testing.T) {
	all := labellings(3)
	for _, a := range all {
		for _, b := range all {
			meet := Meet(a, b)
			if !LessCommitted(meet, a) || !LessCommitted(meet, b) {
				t.Errorf("%v, %v: %v", a, b, meet)
			}
			for _, c := range all {
				if LessCommitted(c, a) && LessCommitted(c, b) && !LessCommitted(c, meet) {
					t.Errorf("%v, %v: %v is not above %v", a, b, meet, c)
				}
			}
		}
	}
}

func TestCompareSorts(t *testing.T) {
	want := lists(4, -1, 0, in, out, und, 9)
	got := slices.Clone(want)
	rand.New(rand.NewSource(117)).Shuffle(len(got), func(i, k int) { got[i], got[k] = got[k], got[i] })
	slices.SortFunc(got, Compare)
	if !slices.EqualFunc(got, want, slices.Equal) {
		t.Error("the lists are not in lexicographic order")
	}
	for k := range want[1:] {
		if Compare(want[k], want[k+1]) != -1 || Compare(want[k+1], want[k]) != 1 || Compare(want[k], slices.Clone(want[k])) != 0 {
			t.Errorf("%v and %v", want[k], want[k+1])
		}
	}
}
