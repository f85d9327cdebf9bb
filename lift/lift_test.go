package lift

import (
	"maps"
	"math"
	"math/rand"
	"slices"
	"strconv"
	"strings"
	"testing"

	"deliberation/api"
	"deliberation/argument"
	"deliberation/literal"
	"deliberation/rulebase"
)

func pos(name string) api.Literal { return api.Literal{Name: name} }
func neg(name string) api.Literal { return api.Literal{Neg: true, Name: name} }

// build returns the rule base with these lines, which are separated by semicolons, and its arguments. Rules may stand before premises, so that what belongs together can stand together.
func build(t *testing.T, text string) (api.Base, []api.Argument) {
	t.Helper()
	var lines []string
	for _, line := range strings.Split(text, ";") {
		if line = strings.TrimSpace(line); line != "" {
			lines = append(lines, line+"\n")
		}
	}
	slices.SortStableFunc(lines, func(x, y string) int { return placeOf(x) - placeOf(y) })
	b, n, err := rulebase.Parse(strings.Join(lines, ""))
	if err != api.OK {
		t.Fatalf("%s: %d at the line %d", text, err, n)
	}
	l, err := argument.Build(b)
	if err != api.OK {
		t.Fatalf("%s: %d", text, err)
	}
	return b, l
}

// placeOf returns the place of a line in a text: premises come before rules, and these before promotions.
func placeOf(line string) int {
	switch strings.Fields(line)[0] {
	case "axiom", "premise", "assume":
		return 0
	case "strict", "rule":
		return 1
	}
	return 2
}

// concluding returns the index of the last argument with a conclusion.
func concluding(t *testing.T, l []api.Argument, text string) int {
	t.Helper()
	for i := len(l) - 1; i >= 0; i-- {
		if literal.Format(l[i].Conclusion) == text {
			return i
		}
	}
	t.Fatalf("no argument for %s in %v", text, l)
	return -1
}

// The parts of an argument, by the sentences of the chapters.

// members returns a set, ascending.
func members(set map[int]bool) []int { return slices.Sorted(maps.Keys(set)) }

func slowPremises(l []api.Argument, i int) map[int]bool {
	premises := map[int]bool{}
	if l[i].Rule < 0 {
		premises[l[i].Premise] = true
	}
	for _, s := range l[i].Subs {
		maps.Copy(premises, slowPremises(l, s))
	}
	return premises
}

// slowRules returns the defeasible rules of an argument: all of them, or the last ones.
func slowRules(b api.Base, l []api.Argument, i int, onlyLast bool) map[int]bool {
	rules := map[int]bool{}
	if r := l[i].Rule; r >= 0 && !b.Rules[r].Strict {
		rules[r] = true
		if onlyLast {
			return rules
		}
	}
	for _, s := range l[i].Subs {
		maps.Copy(rules, slowRules(b, l, s, onlyLast))
	}
	return rules
}

// slow contains what the chapter defines for an argument.
type slow struct {
	premises, rules, last []int
	assumes               bool
}

func slowly(b api.Base, l []api.Argument, i int) slow {
	var s slow
	for _, p := range members(slowPremises(l, i)) {
		if b.Premises[p].Kind == api.Ordinary {
			s.premises = append(s.premises, b.Premises[p].Rank)
		}
		if b.Premises[p].Kind == api.Assumption {
			s.premises, s.assumes = append(s.premises, -1), true
		}
	}
	for _, r := range members(slowRules(b, l, i, false)) {
		s.rules = append(s.rules, b.Rules[r].Rank)
	}
	for _, r := range members(slowRules(b, l, i, true)) {
		s.last = append(s.last, b.Rules[r].Rank)
	}
	return s
}

// partsOf returns what the package says about an argument.
func partsOf(b api.Base, l []api.Argument, i int) slow {
	return slow{PremiseRanks(b, l, i), RuleRanks(b, l, i), LastRanks(b, l, i), Assumes(b, l, i)}
}

func (s slow) same(x slow) bool {
	return slices.Equal(s.premises, x.premises) && slices.Equal(s.rules, x.rules) && slices.Equal(s.last, x.last) && s.assumes == x.assumes
}

// randomBase returns a valid rule base over a few literals, with few ranks, so that many are equal.
func randomBase(random *rand.Rand) api.Base {
	universe := []api.Literal{pos("p"), neg("p"), pos("q"), neg("q"), pos("r"), pos("s")}
	pick := func() api.Literal { return universe[random.Intn(len(universe))] }
	var b api.Base
	for _, k := range random.Perm(len(universe))[:1+random.Intn(4)] {
		p := api.Premise{Literal: universe[k], Kind: 1 + random.Intn(3)}
		if p.Kind == api.Ordinary {
			p.Rank = random.Intn(4)
		}
		b.Premises = append(b.Premises, p)
	}
	for k := range random.Intn(7) {
		r := api.Rule{Name: "r" + strconv.Itoa(k), Strict: random.Intn(2) == 0, Head: pick()}
		if !r.Strict {
			r.Rank = random.Intn(4)
		}
		for range random.Intn(4) {
			r.Body = append(r.Body, pick())
		}
		r.Body = literal.Normal(r.Body)
		b.Rules = append(b.Rules, r)
	}
	return b
}

// randomBuilt returns random rule bases with their lists, and leaves out those without a list.
func randomBuilt(seed int64, n int) func(yield func(api.Base, []api.Argument) bool) {
	random := rand.New(rand.NewSource(seed))
	return func(yield func(api.Base, []api.Argument) bool) {
		for range n {
			b := randomBase(random)
			if l, err := argument.Build(b); err == api.OK && !yield(b, l) {
				return
			}
		}
	}
}

// P8.1

var noLifts = []int{0, 3, -1, -2, 4, math.MaxInt, math.MinInt, 1 + 1<<32, 2 + 1<<32}

func TestSetLessOfSomeLists(t *testing.T) {
	for i, x := range []struct {
		a, b                []int
		elitist, democratic bool
	}{
		{nil, nil, false, false}, {[]int{}, nil, false, false}, {nil, []int{}, false, false},
		{nil, []int{5}, false, false}, {[]int{}, []int{-1}, false, false},
		{[]int{5}, nil, true, true}, {[]int{math.MaxInt}, []int{}, true, true},
		{[]int{3}, []int{3}, false, false}, {[]int{2}, []int{3}, true, true}, {[]int{3}, []int{2}, false, false},
		// the example of the chapter, in both directions
		{[]int{2, 5}, []int{3}, true, false}, {[]int{3}, []int{2, 5}, false, true},
		// the extremes stand in any place
		{[]int{4, 1, 3}, []int{5, 2, 9}, true, true}, {[]int{9, 1}, []int{2, 8}, true, false}, {[]int{8, 2}, []int{1, 9}, false, true},
		{[]int{1, 4}, []int{4, 1}, false, false}, {[]int{1, 4}, []int{4, 2}, true, false}, {[]int{1, 3}, []int{4, 1}, false, true},
		// as sets: how often an element is there does not matter
		{[]int{1, 1, 1}, []int{1}, false, false}, {[]int{1}, []int{1, 1}, false, false}, {[]int{2, 7}, []int{7, 2, 2, 7}, false, false}, {[]int{0, 0}, []int{1}, true, true},
		// -1 stands for an assumption; any other number is a rank as well
		{[]int{-1}, []int{0}, true, true}, {[]int{-1, 9}, []int{0}, true, false}, {[]int{-3}, []int{-2}, true, true},
		{[]int{math.MinInt}, []int{math.MaxInt}, true, true}, {[]int{math.MaxInt}, []int{math.MinInt}, false, false},
		{[]int{math.MinInt, math.MaxInt}, []int{0}, true, false}, {[]int{0}, []int{math.MinInt, math.MaxInt}, false, true},
	} {
		if SetLess(x.a, x.b, api.Elitist) != x.elitist || SetLess(x.a, x.b, api.Democratic) != x.democratic {
			t.Errorf("lists %d", i)
		}
		for _, lift := range noLifts {
			if SetLess(x.a, x.b, lift) {
				t.Errorf("lists %d: lift %d", i, lift)
			}
		}
	}
}

// slowSetLess compares element by element.
func slowSetLess(a, b []int, lift int) bool {
	lessThan := func(x int, l []int) bool { return !slices.ContainsFunc(l, func(y int) bool { return x >= y }) }
	greaterThan := func(x int, l []int) bool { return !slices.ContainsFunc(l, func(y int) bool { return x <= y }) }
	switch {
	case len(a) == 0:
		return false
	case len(b) == 0:
		return lift == api.Elitist || lift == api.Democratic
	case lift == api.Elitist:
		return slices.ContainsFunc(a, func(x int) bool { return lessThan(x, b) })
	case lift == api.Democratic:
		return slices.ContainsFunc(b, func(x int) bool { return greaterThan(x, a) })
	}
	return false
}

// shortLists returns all lists of up to three numbers from -1 to 2.
func shortLists() [][]int {
	all := [][]int{nil}
	for n := 0; n < len(all) && len(all[n]) < 3; n++ {
		for x := -1; x <= 2; x++ {
			all = append(all, append(slices.Clone(all[n]), x))
		}
	}
	return all
}

func TestSetLessOfEveryShortList(t *testing.T) {
	all := shortLists()
	if len(all) != 1+4+16+64 {
		t.Fatalf("%d lists", len(all))
	}
	for _, a := range all {
		for _, b := range all {
			for lift := -1; lift <= 4; lift++ {
				if SetLess(a, b, lift) != slowSetLess(a, b, lift) {
					t.Errorf("%v, %v, %d", a, b, lift)
				}
			}
		}
	}
}

// The consequences: a strict weak order, in which the empty list is the greatest.

func TestSetLessIsAStrictWeakOrder(t *testing.T) {
	all := shortLists()
	for _, lift := range []int{api.Elitist, api.Democratic} {
		for _, a := range all {
			if SetLess(a, a, lift) || SetLess(nil, a, lift) || SetLess(a, nil, lift) != (len(a) > 0) {
				t.Errorf("%v: lift %d", a, lift)
			}
			for _, b := range all {
				for _, c := range all {
					if SetLess(a, b, lift) && SetLess(b, c, lift) && !SetLess(a, c, lift) || SetLess(a, b, lift) && !SetLess(a, c, lift) && !SetLess(c, b, lift) {
						t.Fatalf("%v, %v, %v: lift %d", a, b, c, lift)
					}
				}
			}
		}
	}
}

func TestSetLessOfLongLists(t *testing.T) {
	const n = 1 << 20
	a, b := make([]int, n), make([]int, n)
	for k := range n {
		a[k], b[k] = k^0x5555, k^0x3333
	}
	a[0x12345], b[0x54321] = -7, n
	if !SetLess(a, b, api.Elitist) || SetLess(b, a, api.Elitist) || !SetLess(a, b, api.Democratic) || SetLess(b, a, api.Democratic) || SetLess(a, a, api.Elitist) {
		t.Error("long lists")
	}
}

func TestSetLessLeavesItsArguments(t *testing.T) {
	a, b := []int{7, 3, 9, 1, 0}, []int{8, 2, 6, 4, 5}
	for lift := range 4 {
		SetLess(a[:3], b[:4], lift)
		SetLess(b[:2], a[:4], lift)
		SetLess(a[:0], b[:0], lift)
	}
	if !slices.Equal(a, []int{7, 3, 9, 1, 0}) || !slices.Equal(b, []int{8, 2, 6, 4, 5}) {
		t.Errorf("changed: %v, %v", a, b)
	}
}

// P8.2

func TestRanksOfSomeArguments(t *testing.T) {
	for _, x := range []struct {
		base, conclusion string
		want             slow
	}{
		// premises of each Kind; a rank can be 0, and that of an assumption is not
		{"axiom p", "p", slow{}},
		{"premise p 0", "p", slow{premises: []int{0}}},
		{"premise p 9 from ann", "p", slow{premises: []int{9}}},
		{"assume p", "p", slow{premises: []int{-1}, assumes: true}},
		{"axiom a; premise p 7; premise q 3", "q", slow{premises: []int{3}}},
		// rules with an empty body
		{"premise a 5; assume u; strict s: -> p", "p", slow{}},
		{"premise a 5; assume u; rule d 0: => p", "p", slow{rules: []int{0}, last: []int{0}}},
		// one for each premise, in the order of the premises, not in that of the body or of the ranks
		{"premise b 6; premise c 2; premise a 4; strict s: a, b, c -> p", "p", slow{premises: []int{6, 2, 4}}},
		{"premise b 6; assume c; premise a 4; axiom d; strict s: a, b, c, d -> p", "p", slow{premises: []int{6, -1, 4}, assumes: true}},
		{"axiom c; assume b; assume a; strict s: a, b, c -> p", "p", slow{premises: []int{-1, -1}, assumes: true}},
		// equal ranks stand there as often as there are premises or rules with them
		{"premise a 5; premise b 5; axiom c; premise d 5; rule r 5: a, b, c, d => p", "p", slow{premises: []int{5, 5, 5}, rules: []int{5}, last: []int{5}}},
		{"rule d 3: => a; rule e 3: => b; strict s: a, b -> p", "p", slow{rules: []int{3, 3}, last: []int{3, 3}}},
		// a premise or a rule that is there twice counts once
		{"premise a 5; strict s: a -> b; strict u: a, b -> p", "p", slow{premises: []int{5}}},
		{"rule d 3: => a; strict s: a -> b; strict u: a, b -> p", "p", slow{rules: []int{3}, last: []int{3}}},
		// one for each rule, in the order of the rules, not in that of the subarguments
		{"rule f 7: c => p; rule e 8: => b; strict s: a, b -> c; rule d 1: => a", "p", slow{rules: []int{7, 8, 1}, last: []int{7}}},
		{"rule e 8: => b; strict s: a, b -> p; rule d 1: => a", "p", slow{rules: []int{8, 1}, last: []int{8, 1}}},
		// the last defeasible rules are those above which there are only strict ones
		{"premise a 2; rule d 1: a => b; rule e 4: b => c; strict s: c -> p", "p", slow{premises: []int{2}, rules: []int{1, 4}, last: []int{4}}},
		{"rule d 1: => a; rule e 4: a => b; strict s: a, b -> p", "p", slow{rules: []int{1, 4}, last: []int{1, 4}}},
		{"premise a 2; axiom c; rule d 1: c => b; strict s: a, b -> p", "p", slow{premises: []int{2}, rules: []int{1}, last: []int{1}}},
		{"premise a 2; strict s: a -> b; strict u: b -> p", "p", slow{premises: []int{2}}},
		// the ranks of other arguments, of strict rules and of promotions do not matter
		{"premise p 4; assume q; rule d 1: p => r; rule e 2: q => r; promote d 9 if p; promote d 8 if r", "p", slow{premises: []int{4}}},
		{"premise p 4; axiom q; rule d 1: p => r; promote d 9 if p; promote d 8 if r", "r", slow{premises: []int{4}, rules: []int{1}, last: []int{1}}},
		// an assumption far below
		{"assume a; rule d 1: a => b; rule e 4: b => c; strict s: c -> p", "p", slow{premises: []int{-1}, rules: []int{1, 4}, last: []int{4}, assumes: true}},
	} {
		b, l := build(t, x.base)
		if got := partsOf(b, l, concluding(t, l, x.conclusion)); !got.same(x.want) {
			t.Errorf("%s: %v", x.base, got)
		}
	}
}

func TestRanksOfNoArgument(t *testing.T) {
	b, all := build(t, "assume p; premise q 3; rule d 2: p => r; strict s: r -> t")
	for _, l := range [][]api.Argument{all, nil, all[:1]} {
		for _, i := range []int{-1, len(l), len(l) + 1, -2, math.MaxInt, math.MinInt, math.MaxInt32 + 1, math.MinInt + 1, 1 << 32} {
			if got := partsOf(b, l, i); !got.same(slow{}) {
				t.Errorf("%d of %d arguments: %v", i, len(l), got)
			}
		}
	}
}

func TestRanksAsTheChapterSays(t *testing.T) {
	n := 0
	for b, l := range randomBuilt(82, 3000) {
		for i := range l {
			if got, want := partsOf(b, l, i), slowly(b, l, i); !got.same(want) {
				t.Fatalf("%+v: argument %d: %v instead of %v", b, i, got, want)
			}
			n++
		}
	}
	if n < 10000 {
		t.Errorf("%d arguments only", n)
	}
}
