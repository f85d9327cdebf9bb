package argument

import (
	"maps"
	"math"
	"math/rand"
	"slices"
	"testing"

	"deliberation/api"
	"deliberation/literal"
	"deliberation/rulebase"
)

// ascending returns the numbers of a set that are not negative.
func ascending(set map[int]bool) []int {
	l := slices.Sorted(maps.Keys(set))
	return slices.DeleteFunc(l, func(n int) bool { return n < 0 })
}

// The parts of an argument, by the sentences of the chapter.

func slowSubs(l []api.Argument, i int) map[int]bool {
	subs := map[int]bool{i: true}
	for _, s := range l[i].Subs {
		for k := range slowSubs(l, s) {
			subs[k] = true
		}
	}
	return subs
}

func slowPremises(l []api.Argument, i int) map[int]bool {
	premises := map[int]bool{l[i].Premise: true}
	for _, s := range l[i].Subs {
		for k := range slowPremises(l, s) {
			premises[k] = true
		}
	}
	return premises
}

func slowDefeasible(b api.Base, l []api.Argument, i int) map[int]bool {
	tops := slowTops(l, i)
	for r := range tops {
		if r < 0 || b.Rules[r].Strict {
			delete(tops, r)
		}
	}
	return tops
}

func slowLast(b api.Base, l []api.Argument, i int) map[int]bool {
	if l[i].Rule < 0 {
		return nil
	}
	if !b.Rules[l[i].Rule].Strict {
		return map[int]bool{l[i].Rule: true}
	}
	last := map[int]bool{}
	for _, s := range l[i].Subs {
		for r := range slowLast(b, l, s) {
			last[r] = true
		}
	}
	return last
}

// parts are the results of Subs, Premises, Defeasible and Last.
type parts [4][]int

func partsOf(b api.Base, l []api.Argument, i int) parts {
	return parts{Subs(l, i), Premises(l, i), Defeasible(b, l, i), Last(b, l, i)}
}

func samePart(x, y []int) bool { return slices.Equal(x, y) }

// build returns the list of b.
func build(t *testing.T, b api.Base) []api.Argument {
	t.Helper()
	l, err := Build(b)
	if err != api.OK {
		t.Fatalf("%v: %d", b, err)
	}
	return l
}

// P7.2

func TestPartsOfSomeArguments(t *testing.T) {
	b := parse(t, "axiom y; premise x 2; assume z",
		"strict k: -> m; rule n 1: => o; strict a: m, o -> q; rule d 0: q, y => r; strict e: r -> s; rule f 0: x, z => u; strict g: s, u, x -> v; strict h: v -> w; rule j 3: w => xx; strict l: s, xx -> yy")
	l := build(t, b)
	const want = "y x z k()m n()o f(1,2)u a(3,4)q d(6,0)r e(7)s g(8,5,1)v h(9)w j(10)xx l(8,11)yy"
	if got := show(b, l); got != want {
		t.Fatal(got)
	}
	for i, x := range []parts{
		{{0}, {0}, nil, nil}, {{1}, {1}, nil, nil}, {{2}, {2}, nil, nil},
		{{3}, nil, nil, nil}, {{4}, nil, {1}, {1}},
		{{1, 2, 5}, {1, 2}, {5}, {5}},
		{{3, 4, 6}, nil, {1}, {1}},
		{{0, 3, 4, 6, 7}, {0}, {1, 3}, {3}},
		{{0, 3, 4, 6, 7, 8}, {0}, {1, 3}, {3}},
		{{0, 1, 2, 3, 4, 5, 6, 7, 8, 9}, {0, 1, 2}, {1, 3, 5}, {3, 5}},
		{{0, 1, 2, 3, 4, 5, 6, 7, 8, 9, 10}, {0, 1, 2}, {1, 3, 5}, {3, 5}},
		{{0, 1, 2, 3, 4, 5, 6, 7, 8, 9, 10, 11}, {0, 1, 2}, {1, 3, 5, 8}, {8}},
		{{0, 1, 2, 3, 4, 5, 6, 7, 8, 9, 10, 11, 12}, {0, 1, 2}, {1, 3, 5, 8}, {3, 8}},
	} {
		if got := partsOf(b, l, i); !slices.EqualFunc(got[:], x[:], samePart) {
			t.Errorf("argument %d: %v", i, got)
		}
	}
}

func TestPartsOfNoArgument(t *testing.T) {
	b := parse(t, "axiom p; rule d 0: p => q")
	for _, l := range [][]api.Argument{build(t, b), nil, build(t, b)[:1]} {
		for _, i := range []int{-1, len(l), len(l) + 1, -2, math.MaxInt, math.MinInt, math.MaxInt32 + 1, math.MinInt + 1} {
			if got := partsOf(b, l, i); len(slices.Concat(got[:]...)) > 0 {
				t.Errorf("%d of %d arguments: %v", i, len(l), got)
			}
		}
	}
}

func TestPartsAsTheChapterSays(t *testing.T) {
	random := rand.New(rand.NewSource(72))
	for range 2000 {
		b := randomBase(random)
		l, _ := Build(b)
		for i := range l {
			got := partsOf(b, l, i)
			want := parts{ascending(slowSubs(l, i)), ascending(slowPremises(l, i)), ascending(slowDefeasible(b, l, i)), ascending(slowLast(b, l, i))}
			if !slices.EqualFunc(got[:], want[:], samePart) {
				t.Fatalf("%s: argument %d: %v instead of %v", show(b, l), i, got, want)
			}
		}
	}
}

// Lists that do not come from Build: results are not specified, but the functions end.

func TestPartsOfOtherLists(t *testing.T) {
	random := rand.New(rand.NewSource(73))
	b := parse(t, "axiom p; strict s: p -> q; rule d 0: q => p; strict u: -> q")
	wild := []int{math.MinInt, -1, 0, 1, 2, 3, 4, 5, 1000, math.MaxInt}
	pick := func() int { return wild[random.Intn(len(wild))] }
	for range 5000 {
		l := make([]api.Argument, random.Intn(6))
		for i := range l {
			l[i] = api.Argument{Premise: pick(), Rule: pick()}
			for range random.Intn(5) {
				l[i].Subs = append(l[i].Subs, pick())
			}
		}
		for i := -1; i <= len(l); i++ {
			partsOf(b, l, i)
			partsOf(api.Base{}, l, i)
			Conclusions(l, []int{i, pick(), pick()})
		}
	}
}

func TestPartsOfAVeryLongList(t *testing.T) {
	const n = 300000
	b := parse(t, "axiom p; strict s: p, q -> q; rule d 0: p => q")
	l := []api.Argument{{Rule: -1}, {Premise: -1, Rule: 1, Subs: []int{0}}}
	for k := 2; k < n; k++ {
		l = append(l, api.Argument{Premise: -1, Rule: 0, Subs: []int{k - 2, k - 1}})
	}
	got := partsOf(b, l, n-1)
	if len(got[0]) != n || !slices.Equal(got[1], []int{0}) || !slices.Equal(got[2], []int{1}) || !slices.Equal(got[3], []int{1}) {
		t.Errorf("%d subarguments, %v", len(got[0]), got[1:])
	}
	l[5].Subs = make([]int, n)
	if got := Subs(l, 5); !slices.Equal(got, []int{0, 5}) {
		t.Errorf("many times the same: %v", got)
	}
}

// P7.3

func TestConclusions(t *testing.T) {
	b := parse(t, "axiom q; axiom ~p; axiom p; axiom a_1; axiom a; rule d 0: p, q => ~p; strict s: ~p -> zz")
	l := build(t, b)
	if got := show(b, l); got != "q ~p p a_1 a d(2,0)~p s(1)zz s(5)zz" {
		t.Fatal(got)
	}
	for i, x := range []struct {
		set  []int
		want []api.Literal
	}{
		{nil, nil}, {[]int{}, nil}, {[]int{0}, list(pos("q"))}, {[]int{7}, list(pos("zz"))},
		{[]int{0, 1, 2, 3, 4, 5, 6, 7}, list(pos("a"), pos("a_1"), pos("p"), neg("p"), pos("q"), pos("zz"))},
		{[]int{7, 5, 3, 1}, list(pos("a_1"), neg("p"), pos("zz"))},
		{[]int{1, 5}, list(neg("p"))}, {[]int{2, 2, 2, 1, 2}, list(pos("p"), neg("p"))},
		{[]int{-1, 8, 9, math.MaxInt, math.MinInt, 1 << 32}, nil},
		{[]int{-1, 6, 8, 4, math.MinInt}, list(pos("a"), pos("zz"))},
	} {
		if got := Conclusions(l, x.set); !slices.Equal(got, x.want) {
			t.Errorf("case %d: %v", i, got)
		}
		if got := Conclusions(nil, x.set); len(got) != 0 {
			t.Errorf("case %d, without arguments: %v", i, got)
		}
	}
}

func TestConclusionsOfManyNumbers(t *testing.T) {
	b := parse(t, "axiom q; axiom p; rule d 0: p => q; rule e 0: p => ~r")
	l := build(t, b)
	set := make([]int, 300000)
	for k := range set {
		set[k] = k%9 - 3
	}
	if got := Conclusions(l, set); !slices.Equal(got, list(pos("p"), pos("q"), neg("r"))) {
		t.Errorf("%v", got)
	}
}

func TestConclusionsAsTheChapterSays(t *testing.T) {
	random := rand.New(rand.NewSource(74))
	for range 1000 {
		l, _ := Build(randomBase(random))
		set, want := make([]int, random.Intn(10)), map[api.Literal]bool{}
		for k := range set {
			set[k] = random.Intn(len(l)+4) - 2
			if set[k] >= 0 && set[k] < len(l) {
				want[l[set[k]].Conclusion] = true
			}
		}
		if got := Conclusions(l, set); !slices.Equal(got, slices.SortedFunc(maps.Keys(want), literal.Compare)) {
			t.Fatalf("%v of %v: %v", set, l, got)
		}
	}
}

// R2

func TestPartsLeaveTheirArguments(t *testing.T) {
	b := roomy(parse(t, "axiom a; axiom c; rule d 1: a => b; strict s: b, c -> e; strict u: b, e -> f; rule g 0: f => h"))
	l := append(build(t, b), api.Argument{Premise: -1, Rule: 2, Subs: []int{0}})
	l = l[:len(l)-1]
	for i := range l {
		l[i].Subs = append(l[i].Subs, 88, 89)[:len(l[i].Subs)]
	}
	set := append([]int{5, 0, 3, 0}, 1, 2)[:4]
	before, wholeBefore, room := clone(whole(b)), cloneList(l[:cap(l)]), roomOf(l)
	for i := range l {
		want := partsOf(b, l, i)
		for _, k := range []int{0, 1, 2, 3} {
			got := partsOf(b, l, i)
			spoilNumbers(got[k])
			got[k] = want[k]
			if again := partsOf(b, l, i); !slices.EqualFunc(got[:], want[:], samePart) || !slices.EqualFunc(again[:], want[:], samePart) {
				t.Errorf("argument %d: the results share memory: %v, %v", i, got, again)
			}
		}
	}
	conclusions := Conclusions(l, set)
	want := slices.Clone(Conclusions(l, set))
	clear(conclusions[:cap(conclusions)])
	if !slices.Equal(Conclusions(l, set), want) || !slices.Equal(set[:6], []int{5, 0, 3, 0, 1, 2}) {
		t.Errorf("the set changed: %v", set[:6])
	}
	if !slices.EqualFunc(l[:cap(l)], wholeBefore, sameArgument) || !slices.Equal(roomOf(l), room) {
		t.Errorf("the list changed: %v", l)
	}
	if !rulebase.Same(whole(b), before) {
		t.Errorf("the rule base changed: %v", b)
	}
}

// roomOf returns all numbers for which the lists of subarguments have room.
func roomOf(l []api.Argument) []int {
	var all []int
	for _, a := range l {
		all = append(all, a.Subs[:cap(a.Subs)]...)
	}
	return all
}
