package lift

import (
	"math"
	"math/rand"
	"slices"
	"testing"

	"deliberation/api"
	"deliberation/argument"
	"deliberation/rulebase"
)

// orderings are all orderings that compare anything.
var orderings = []api.Ordering{
	{Link: api.LastLink, Lift: api.Elitist}, {Link: api.LastLink, Lift: api.Democratic},
	{Link: api.WeakestLink, Lift: api.Elitist}, {Link: api.WeakestLink, Lift: api.Democratic},
}

// P8.3

func TestLessOfSomeArguments(t *testing.T) {
	const (
		le = 1 << iota
		ld
		we
		wd
		none = 0
		last = le | ld
		weak = we | wd
		all  = last | weak
	)
	for _, x := range []struct {
		base       string
		pq, qp     int // the orderings in which p is less than q, and q less than p
		difference string
	}{
		{"axiom p; axiom q", none, none, "nothing"},
		{"premise p 1; premise q 2", all, none, "premise ranks"},
		{"premise p 2; premise q 2", none, none, "equal premise ranks"},
		{"premise p 9; axiom q", all, none, "an axiom"},
		{"premise p 0; strict s: -> q", all, none, "a strict rule"},
		{"rule d 1: => p; rule e 2: => q", all, none, "rule ranks"},
		{"rule d 2: => p; rule e 2: => q", none, none, "equal rule ranks"},
		{"rule d 9: => p; axiom q", all, none, "an axiom against a rule"},
		{"axiom a; rule d 1: a => p; rule e 2: => q", all, none, "rule ranks; axioms have none"},
		// by the last link, premises matter only if neither has last ranks
		{"rule d 9: => p; premise q 0", last, none, "by the weakest link each has something that the other one has not"},
		{"premise a 1; rule d 2: a => p; premise b 3; rule e 2: b => q", none, none, "premise ranks under equal rules"},
		{"premise a 3; rule d 1: a => p; premise b 1; rule e 2: b => q", last, none, "the other one has the lesser premise rank"},
		{"premise a 1; rule d 1: a => p; premise b 3; rule e 2: b => q", all, none, "both ranks"},
		{"premise a 1; strict s: a -> p; premise b 3; strict u: b -> q", all, none, "premise ranks under strict rules"},
		// by the last link, only the last rules matter
		{"rule a 0: => c; rule d 2: c => p; rule e 1: => q", we, last | wd, "the rule below the last one has the least rank"},
		{"rule a 9: => c; rule d 1: c => p; rule e 2: => q", last | we, wd, "the rule below the last one has the greatest rank"},
		// the example of the chapter
		{"premise a 4; rule d 1: a => p; premise b 2; rule e 3: b => q", last, none, "ranks in opposite orders"},
		// with both kinds of ranks, both must be less
		{"premise a 1; rule d 2: a => p; premise b 2; rule e 2: b => q", none, none, "equal rule ranks"},
		{"premise a 2; rule d 1: a => p; premise b 2; rule e 2: b => q", last, none, "equal premise ranks"},
		{"premise a 1; rule d 1: a => p; premise q 2", all, none, "a missing rule rank is the greatest: the premise rank"},
		{"premise a 1; rule d 1: a => p; axiom q", all, none, "missing ranks of both kinds"},
		{"premise a 1; rule d 1: a => p; rule e 2: => q", all, none, "a missing premise rank is the greatest"},
		{"premise a 3; rule d 1: a => p; premise q 2", last, none, "the premise rank is not less"},
		{"premise a 1; rule d 3: a => p; rule e 2: => q", none, last, "the rule rank is not less"},
		{"premise p 1; premise b 2; rule e 1: b => q", none, last, "nothing is less than no rule ranks, by the weakest link"},
		// with the lift Elitist the least rank counts, with Democratic the greatest one
		{"premise a 1; premise b 9; strict s: a, b -> p; premise q 5", le | we, ld | wd, "premise ranks"},
		{"rule d 1: => a; rule e 9: => b; strict s: a, b -> p; rule f 5: => q", le | we, ld | wd, "rule ranks"},
		{"premise x 0; rule d 1: x => a; rule e 9: => b; strict s: a, b -> p; premise y 1; rule f 5: y => q", le | we, ld, "both ranks"},
		{"premise x 2; premise y 4; premise z 3; rule d 1: x, y => p; rule e 1: z => q", none, none, "premise ranks with equal rules"},
		// who assumes is never greater, but can be less
		{"assume p; premise q 0", all, none, "an assumption"},
		{"assume p; assume q", none, none, "two assumptions"},
		{"assume p; axiom q", all, none, "an assumption and an axiom"},
		{"assume p; rule d 0: => q", none, none, "the last link is a rule; the weakest link asks for both ranks"},
		{"assume a; rule d 0: a => p; axiom q", all, none, "a rule on an assumption"},
		{"assume a; rule d 9: a => p; rule e 0: => q", none, none, "a greater rule on an assumption: not greater"},
		{"assume a; rule d 0: a => p; rule e 9: => q", all, none, "a lesser rule on an assumption"},
		{"assume a; rule d 0: a => p; premise b 0; rule e 9: b => q", all, none, "a lesser rule on an assumption, -1 and 0"},
		{"assume a; premise b 9; strict s: a, b -> p; premise q 5", le | we, none, "an assumption beside a premise"},
		{"assume a; strict s: a -> p; axiom b; strict u: b -> q", all, none, "an assumption under a strict rule"},
		// ranks below a strict rule
		{"rule d 1: => a; strict s: a -> p; rule e 2: => b; strict u: b -> q", all, none, "rule ranks below strict rules"},
		// a promotion is not looked at
		{"rule d 1: => p; rule e 2: => q; axiom a; promote d 9 if a", all, none, "a promotion"},
	} {
		b, l := build(t, x.base)
		p, q := concluding(t, l, "p"), concluding(t, l, "q")
		pq, qp := 0, 0
		for n, o := range orderings {
			if Less(b, l, p, q, o) {
				pq |= 1 << n
			}
			if Less(b, l, q, p, o) {
				qp |= 1 << n
			}
		}
		if pq != x.pq || qp != x.qp {
			t.Errorf("%s (%s): %b, %b", x.base, x.difference, pq, qp)
		}
	}
}

func TestLessOfNoArgument(t *testing.T) {
	b, l := build(t, "premise p 1; axiom q; assume u; rule d 0: p => r")
	for _, o := range orderings {
		if !Less(b, l, 0, 1, o) || !Less(b, l, 3, 1, o) || !Less(b, l, 2, 0, o) {
			t.Fatalf("%v", o)
		}
		for _, i := range []int{-1, 4, 5, -2, math.MaxInt, math.MinInt, 1 << 32, 1<<32 + 1, 1<<33 + 1} {
			for k := range l {
				if Less(b, l, i, k, o) || Less(b, l, k, i, o) || Less(b, l, i, i, o) {
					t.Errorf("%d and %d: %v", i, k, o)
				}
			}
		}
		if Less(b, nil, 0, 1, o) || Less(b, l[:1], 0, 1, o) || Less(b, l[:1], 1, 0, o) || Less(api.Base{}, nil, 0, 0, o) {
			t.Errorf("no arguments: %v", o)
		}
	}
}

func TestLessInNoOrdering(t *testing.T) {
	b, l := build(t, "premise p 1; axiom q; assume u; rule d 0: p => r; rule e 3: => t; strict s: p, r -> w")
	for _, wrong := range noLifts {
		for right := 1; right <= 2; right++ {
			for _, o := range []api.Ordering{{Link: wrong, Lift: right}, {Link: right, Lift: wrong}, {Link: wrong, Lift: wrong}} {
				for i := range l {
					for k := range l {
						if Less(b, l, i, k, o) {
							t.Errorf("%d less than %d: %v", i, k, o)
						}
					}
				}
			}
		}
	}
}

// slowLess compares two arguments by the sentences of the chapter.
func slowLess(b api.Base, l []api.Argument, i, k int, o api.Ordering) bool {
	x, y := slowly(b, l, i), slowly(b, l, k)
	if y.assumes {
		return false
	}
	premises, rules, last := slowSetLess(x.premises, y.premises, o.Lift), slowSetLess(x.rules, y.rules, o.Lift), slowSetLess(x.last, y.last, o.Lift)
	if o.Link == api.LastLink {
		return last || len(x.last) == 0 && len(y.last) == 0 && premises
	}
	if len(x.rules) == 0 && len(y.rules) == 0 {
		return premises
	}
	if len(x.premises) == 0 && len(y.premises) == 0 {
		return rules
	}
	return premises && rules
}

func TestLessAsTheChapterSays(t *testing.T) {
	var found [2]int
	for b, l := range randomBuilt(83, 1500) {
		for i := range l {
			for k := range l {
				for _, o := range orderings {
					got := Less(b, l, i, k, o)
					if got != slowLess(b, l, i, k, o) {
						t.Fatalf("%+v: %d less than %d: %v: %v", b, i, k, o, got)
					}
					if got {
						found[1]++
					} else {
						found[0]++
					}
				}
			}
		}
	}
	if found[0] < 10000 || found[1] < 10000 {
		t.Errorf("pairs that are not less, and pairs that are: %v", found)
	}
}

// The consequences.

// lessTable returns for each pair of arguments whether the first one is less.
func lessTable(b api.Base, l []api.Argument, o api.Ordering) [][]bool {
	table := make([][]bool, len(l))
	for i := range l {
		table[i] = make([]bool, len(l))
		for k := range l {
			table[i][k] = Less(b, l, i, k, o)
		}
	}
	return table
}

func TestLessIsAsymmetricAndByTheLastLinkTransitive(t *testing.T) {
	for b, l := range randomBuilt(84, 800) {
		for _, o := range orderings {
			less := lessTable(b, l, o)
			for i := range l {
				for k := range l {
					if less[i][k] && less[k][i] {
						t.Fatalf("%+v: %d and %d: %v", b, i, k, o)
					}
					for m := range l {
						if o.Link == api.LastLink && less[i][k] && less[k][m] && !less[i][m] {
							t.Fatalf("%+v: %d, %d and %d: %v", b, i, k, m, o)
						}
					}
				}
			}
		}
	}
}

func TestWhatIsCertainIsGreatest(t *testing.T) {
	for b, l := range randomBuilt(85, 1500) {
		isCertain := func(i int) bool {
			s := slowly(b, l, i)
			return len(s.premises) == 0 && len(s.rules) == 0
		}
		for _, o := range orderings {
			for i := range l {
				for k := range l {
					less := Less(b, l, i, k, o)
					if isCertain(i) && less || isCertain(k) && !isCertain(i) && !less {
						t.Fatalf("%+v: %d and %d: %v", b, i, k, o)
					}
				}
			}
		}
	}
}

func TestStrictRulesKeepTheStrength(t *testing.T) {
	for b, l := range randomBuilt(86, 1500) {
		for _, o := range orderings {
			for i, a := range l {
				if a.Rule < 0 || !b.Rules[a.Rule].Strict || len(a.Subs) == 0 {
					continue
				}
				if !slices.ContainsFunc(a.Subs, func(s int) bool { return !Less(b, l, i, s, o) }) {
					t.Fatalf("%+v: %d is less than all of its Subs: %v", b, i, o)
				}
				s := a.Subs[0]
				differs := func(k int) bool {
					return Less(b, l, i, k, o) != Less(b, l, s, k, o) || Less(b, l, k, i, o) != Less(b, l, k, s, o)
				}
				for k := range l {
					if len(a.Subs) == 1 && differs(k) {
						t.Fatalf("%+v: %d and %d differ from %d: %v", b, i, s, k, o)
					}
				}
			}
		}
	}
}

func TestRulesAreLessThanPremisesByTheLastLink(t *testing.T) {
	for b, l := range randomBuilt(87, 1500) {
		for _, o := range orderings[:2] {
			for i, a := range l {
				for k := range b.Premises {
					if a.Rule >= 0 && !b.Rules[a.Rule].Strict && b.Premises[k].Kind == api.Ordinary && !Less(b, l, i, k, o) {
						t.Fatalf("%+v: %d is not less than the premise %d: %v", b, i, k, o)
					}
				}
			}
		}
	}
}

// R1: for lists that do not come from Build the results are not specified, but the functions end.

func TestOtherLists(t *testing.T) {
	random := rand.New(rand.NewSource(88))
	b, _ := build(t, "assume p; premise r 3; strict s: p -> q; rule d 0: q => p; strict u: -> q")
	b.Premises[1].Kind = 7
	wild := []int{math.MinInt, -1, 0, 1, 2, 3, 4, 5, 1000, math.MaxInt}
	pick := func() int { return wild[random.Intn(len(wild))] }
	for range 5000 {
		l := make([]api.Argument, random.Intn(6))
		for i := range l {
			l[i] = api.Argument{Premise: pick(), Rule: pick()}
			for range random.Intn(5) {
				l[i].Subs = append(l[i].Subs, pick())
			}
		}
		o := orderings[random.Intn(len(orderings))]
		for i := -1; i <= len(l); i++ {
			partsOf(b, l, i)
			partsOf(api.Base{}, l, i)
			Less(b, l, i, pick(), o)
			Less(api.Base{}, l, pick(), i, o)
		}
	}
}

func TestAListOfAnotherRuleBase(t *testing.T) {
	_, l := build(t, "axiom a; premise p 1; premise q 2; assume u; rule d 1: p => r; rule e 2: q => t; strict s: r, t -> w")
	for _, lines := range []string{"", "assume x", "rule f 3: => x", "premise x 2; rule f 3: => x; strict g: x -> y"} {
		b, _ := build(t, lines)
		for i := range l {
			partsOf(b, l, i)
			for k := range l {
				Less(b, l, i, k, orderings[k%4])
			}
		}
	}
}

func TestAVeryLongList(t *testing.T) {
	const n = 300000
	b, l := build(t, "premise p 4; strict s: p, q -> q; rule d 3: p => q")
	l = l[:2]
	for k := 2; k < n; k++ {
		l = append(l, api.Argument{Premise: -1, Rule: 0, Subs: []int{k - 2, k - 1}})
	}
	if got := partsOf(b, l, n-1); !got.same(slow{premises: []int{4}, rules: []int{3}, last: []int{3}}) {
		t.Errorf("%v", got)
	}
	if o := orderings[0]; !Less(b, l, n-1, 0, o) || Less(b, l, 0, n-1, o) {
		t.Error("not less")
	}
}

// R2

// roomy returns copies of a rule base and its list that have something behind the ends of their slices.
func roomy(b api.Base, l []api.Argument) (api.Base, []api.Argument) {
	c := api.Base{Promotions: append(slices.Clone(b.Promotions), api.Promotion{Rule: "spare"})[:len(b.Promotions)]}
	c.Premises = append(slices.Clone(b.Premises), api.Premise{Literal: pos("spare"), Kind: api.Assumption})[:len(b.Premises)]
	for _, r := range b.Rules {
		r.Body = append(slices.Clone(r.Body), neg("spare"), neg("more"))[:len(r.Body)]
		c.Rules = append(c.Rules, r)
	}
	c.Rules = append(c.Rules, api.Rule{Name: "spare", Rank: 9})[:len(b.Rules)]
	var m []api.Argument
	for _, a := range l {
		a.Subs = append(slices.Clone(a.Subs), 88, 89)[:len(a.Subs)]
		m = append(m, a)
	}
	return c, append(m, api.Argument{Premise: 0, Rule: -1})[:len(l)]
}

// whole returns a rule base and a list together with what is behind the ends of their slices, copied.
func whole(b api.Base, l []api.Argument) (api.Base, []api.Argument) {
	c := api.Base{Premises: slices.Clone(b.Premises[:cap(b.Premises)]), Rules: slices.Clone(b.Rules[:cap(b.Rules)]), Promotions: slices.Clone(b.Promotions[:cap(b.Promotions)])}
	for i, r := range c.Rules {
		c.Rules[i].Body = slices.Clone(r.Body[:cap(r.Body)])
	}
	m := slices.Clone(l[:cap(l)])
	for i, a := range m {
		m[i].Subs = slices.Clone(a.Subs[:cap(a.Subs)])
	}
	return c, m
}

func sameArgument(x, y api.Argument) bool {
	return x.Premise == y.Premise && x.Rule == y.Rule && x.Conclusion == y.Conclusion && slices.Equal(x.Subs, y.Subs)
}

func TestRanksLeaveTheirArguments(t *testing.T) {
	b, l := roomy(build(t, "premise a 4; assume c; premise f 2; rule d 1: a => b; strict s: b, c -> e; strict u: e, f -> h; rule g 0: h => k; promote d 3 if c"))
	base, list := whole(b, l)
	for i := range l {
		want := slowly(b, l, i)
		got := partsOf(b, l, i)
		for _, ranks := range [][]int{got.premises, got.rules, got.last} {
			for k := range ranks[:cap(ranks)] {
				ranks[:cap(ranks)][k] = 77
			}
			if again := partsOf(b, l, i); !again.same(want) {
				t.Errorf("argument %d: %v", i, again)
			}
		}
		for k := range l {
			for _, o := range orderings {
				if Less(b, l, i, k, o) != slowLess(b, l, i, k, o) {
					t.Errorf("%d less than %d: %v", i, k, o)
				}
			}
		}
	}
	afterBase, afterList := whole(b, l)
	if !rulebase.Same(base, afterBase) || !slices.EqualFunc(list, afterList, sameArgument) {
		t.Errorf("changed: %v, %v", afterBase, afterList)
	}
}

func TestResultsShareNoMemory(t *testing.T) {
	b, l := build(t, "premise a 4; premise c 2; rule d 1: a => b; rule e 2: => f; strict s: b, c, f -> h")
	i := concluding(t, l, "h")
	first, second := partsOf(b, l, i), partsOf(b, l, i)
	clear(first.premises)
	clear(first.rules)
	if want := slowly(b, l, i); !slices.Equal(first.last, want.last) || !second.same(want) {
		t.Errorf("%v, %v", first, second)
	}
}

func TestEqualArgumentsOfTwoListsCompareEqually(t *testing.T) {
	for b, l := range randomBuilt(89, 300) {
		again, err := argument.Build(b)
		c, m := roomy(b, again)
		for i := range l {
			for k := range l {
				for _, o := range orderings {
					if err != api.OK || Less(b, l, i, k, o) != Less(c, m, i, k, o) {
						t.Fatalf("%+v: %d less than %d: %v", b, i, k, o)
					}
				}
			}
		}
	}
}
