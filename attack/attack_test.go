package attack

import (
	"math"
	"math/rand"
	"slices"
	"strconv"
	"strings"
	"testing"

	"deliberation/api"
	"deliberation/argument"
	"deliberation/lift"
	"deliberation/literal"
	"deliberation/rulebase"
)

func pos(name string) api.Literal { return api.Literal{Name: name} }
func neg(name string) api.Literal { return api.Literal{Neg: true, Name: name} }

// build returns the rule base with these lines, which are separated by semicolons, and its arguments. Rules may stand before premises, so that what belongs together can stand together.
func build(t *testing.T, text string) (api.Base, []api.Argument) {
	t.Helper()
	var lines []string
	for _, line := range strings.Split(text, ";") {
		if line = strings.TrimSpace(line); line != "" {
			lines = append(lines, line+"\n")
		}
	}
	slices.SortStableFunc(lines, func(x, y string) int { return placeOf(x) - placeOf(y) })
	b, n, err := rulebase.Parse(strings.Join(lines, ""))
	if err != api.OK {
		t.Fatalf("%s: %d at the line %d", text, err, n)
	}
	l, err := argument.Build(b)
	if err != api.OK {
		t.Fatalf("%s: %d", text, err)
	}
	return b, l
}

// placeOf returns the place of a line in a text: premises come before rules, and these before promotions.
func placeOf(line string) int {
	switch strings.Fields(line)[0] {
	case "axiom", "premise", "assume":
		return 0
	case "strict", "rule":
		return 1
	}
	return 2
}

// nameOf writes an argument: a premise as its literal, an application as the name of the rule with the names of its subarguments.
func nameOf(b api.Base, l []api.Argument, i int) string {
	a := l[i]
	if a.Rule < 0 {
		return literal.Format(b.Premises[a.Premise].Literal)
	}
	var subs []string
	for _, s := range a.Subs {
		subs = append(subs, nameOf(b, l, s))
	}
	return b.Rules[a.Rule].Name + "(" + strings.Join(subs, ",") + ")"
}

// show writes attacks, each one as FROM KIND TO, and the subargument behind an @ if it is not the whole argument.
func show(b api.Base, l []api.Argument, attacks []api.Attack) string {
	var out []string
	for _, a := range attacks {
		s := nameOf(b, l, a.From) + [...]string{"", " mines ", " rebuts ", " cuts "}[a.Kind] + nameOf(b, l, a.To)
		if a.Sub != a.To {
			s += " @ " + nameOf(b, l, a.Sub)
		}
		out = append(out, s)
	}
	return strings.Join(out, "; ")
}

// orderings are all orderings that compare anything, and some that do not.
var orderings = []api.Ordering{
	{Link: api.LastLink, Lift: api.Elitist}, {Link: api.LastLink, Lift: api.Democratic},
	{Link: api.WeakestLink, Lift: api.Elitist}, {Link: api.WeakestLink, Lift: api.Democratic},
	{}, {Link: api.LastLink, Lift: 3}, {Link: 3, Lift: api.Democratic}, {Link: -1, Lift: math.MaxInt},
}

// P9.1

func TestAttacksOfSomeRuleBases(t *testing.T) {
	for _, x := range []struct{ base, want string }{
		{"", ""}, {"premise p 1", ""}, {"strict s: -> p", ""}, {"rule d 1: => p", ""},
		{"premise p 1; premise q 2; rule d 3: p => r; strict s: q -> w", ""},
		// premises of each Kind: axioms attack, but are not attacked
		{"premise p 1; premise ~p 2", "p mines ~p; ~p mines p"},
		{"premise ~p 1; premise p 2", "~p mines p; p mines ~p"},
		{"axiom p; premise ~p 9", "p mines ~p"}, {"premise p 9; axiom ~p", "~p mines p"},
		{"axiom p; assume ~p", "p mines ~p"}, {"assume p; axiom ~p", "~p mines p"},
		{"assume p; premise ~p 0", "p mines ~p; ~p mines p"}, {"assume p; assume ~p", "p mines ~p; ~p mines p"},
		{"axiom p; axiom ~p", ""},
		// the rules: defeasible ones are rebutted, strict ones are not
		{"premise ~q 1; rule d 2: => q", "~q rebuts d(); d() mines ~q"}, {"premise q 1; rule d 2: => ~q", "q rebuts d(); d() mines q"},
		{"axiom ~q; rule d 2: => q", "~q rebuts d()"}, {"assume ~q; rule d 2: => q", "~q rebuts d(); d() mines ~q"},
		{"premise ~q 1; strict s: -> q", "s() mines ~q"}, {"axiom ~q; strict s: -> q", ""},
		{"strict s: -> ~q; rule d 2: => q", "s() rebuts d()"}, {"strict s: -> ~q; strict u: -> q", ""},
		{"rule d 1: => p; rule e 1: => ~p", "d() rebuts e(); e() rebuts d()"},
		// the name of a rule, which only a negative literal speaks against, and only if the rule is defeasible
		{"premise ~d 1; rule d 2: => q", "~d cuts d()"}, {"axiom ~d; rule d 2: => q", "~d cuts d()"}, {"assume ~d; rule d 2: => q", "~d cuts d()"},
		{"premise d 1; rule d 2: => q", ""}, {"premise ~d 1; strict d: -> q", ""}, {"premise ~e 1; rule d 2: => q", ""},
		{"strict s: -> ~d; rule d 2: => q", "s() cuts d()"}, {"rule e 0: => ~d; rule d 2: => q", "e() cuts d()"},
		{"rule d 1: => ~e; rule e 1: => ~d", "d() cuts e(); e() cuts d()"},
		{"premise d 1; premise ~d 2; rule d 3: => q", "d mines ~d; ~d mines d; ~d cuts d()"},
		// in both ways at once, the lesser Kind first
		{"premise ~r 0; rule r 1: => r", "~r rebuts r(); ~r cuts r(); r() mines ~r"},
		{"rule r 1: => ~r", "r() cuts r()"}, {"strict s: -> ~r; rule r 1: => r", "s() rebuts r(); s() cuts r()"},
		// at a subargument
		{"premise p 1; premise ~p 2; strict s: p -> q", "p mines ~p; ~p mines p; ~p mines s(p) @ p"},
		{"premise p 1; premise ~p 2; rule d 1: p => q", "p mines ~p; ~p mines p; ~p mines d(p) @ p"},
		{"axiom p; premise ~p 2; strict s: p -> q", "p mines ~p"},
		{"premise p 1; premise ~d 2; rule d 1: p => q; rule e 2: q => r", "~d cuts d(p); ~d cuts e(d(p)) @ d(p)"},
		{"axiom p; rule d 1: p => q; strict s: q -> r; axiom ~q", "~q rebuts d(p); ~q rebuts s(d(p)) @ d(p)"},
		{"axiom p; axiom ~q; axiom ~r; rule d 1: p => q; rule e 1: q => r", "~q rebuts d(p); ~q rebuts e(d(p)) @ d(p); ~r rebuts e(d(p))"},
		{"axiom ~a; axiom ~b; premise a 1; premise b 1; strict s: a, b -> c", "~a mines a; ~a mines s(a,b) @ a; ~b mines b; ~b mines s(a,b) @ b"},
		// at several subarguments, or with several kinds, by one argument
		{"axiom ~q; axiom p; premise q 1; rule d 1: p => q; strict s: q -> r", "~q mines q; ~q rebuts d(p); ~q mines s(q) @ q; ~q rebuts s(d(p)) @ d(p)"},
		{"axiom ~d; rule e 1: => d; rule d 1: d => q; rule f 2: q => r", "~d rebuts e(); ~d rebuts d(e()) @ e(); ~d cuts d(e()); ~d rebuts f(d(e())) @ e(); ~d cuts f(d(e())) @ d(e())"},
		{"axiom ~d; premise d 1; rule d 1: d => q", "~d mines d; ~d mines d(d) @ d; ~d cuts d(d)"},
		{"axiom ~q; axiom ~d; rule d 1: => q; rule e 1: q => r", "~q rebuts d(); ~q rebuts e(d()) @ d(); ~d cuts d(); ~d cuts e(d()) @ d()"},
		// a subargument that two parts of an argument share is attacked once
		{"axiom ~a; premise a 1; strict s: a -> b; strict u: a, b -> c", "~a mines a; ~a mines s(a) @ a; ~a mines u(a,s(a)) @ a"},
		// an argument that attacks itself, and what it attacks
		{"premise p 3; strict s: p -> ~p", "s(p) mines p; s(p) mines s(p) @ p"},
		{"axiom p; strict s: p -> ~p", ""},
		{"rule d 1: => p; rule e 2: p => ~p", "d() rebuts e(d()); e(d()) rebuts d(); e(d()) rebuts e(d()) @ d()"},
		{"rule d 1: => p; rule e 2: p => ~e", "e(d()) cuts e(d())"},
		// the examples of the chapter
		{"premise ~d 1; premise p 2; rule d 3: p => q", "~d cuts d(p)"},
		{"premise p 1; premise ~q 2; strict s: p -> q", "s(p) mines ~q"},
		{"premise p 1; premise ~p 2; strict s: p -> q", "p mines ~p; ~p mines p; ~p mines s(p) @ p"},
		{"axiom p; rule d 1: => ~p; strict s: p -> q", "p rebuts d()"},
		// several attackers, and several targets
		{"premise p 1; rule d 1: => ~p; rule e 2: => ~p; strict s: -> ~p", "p rebuts d(); p rebuts e(); d() mines p; e() mines p; s() mines p"},
	} {
		b, l := build(t, x.base)
		if got := show(b, l, Attacks(b, l)); got != x.want {
			t.Errorf("%s: %s instead of %s", x.base, got, x.want)
		}
	}
}

func TestAttacksAreNumbersInTheList(t *testing.T) {
	b, l := build(t, "premise p 1; premise ~p 2; premise ~d 0; rule d 3: p => q; strict s: ~p -> ~q")
	want := []api.Attack{
		{From: 0, To: 1, Sub: 1, Kind: api.Undermine}, {From: 0, To: 4, Sub: 1, Kind: api.Undermine},
		{From: 1, To: 0, Sub: 0, Kind: api.Undermine}, {From: 1, To: 3, Sub: 0, Kind: api.Undermine},
		{From: 2, To: 3, Sub: 3, Kind: api.Undercut}, {From: 4, To: 3, Sub: 3, Kind: api.Rebut},
	}
	if got := Attacks(b, l); !slices.Equal(got, want) {
		t.Errorf("%v", got)
	}
}

func TestDefeatsOfSomeRuleBases(t *testing.T) {
	const (
		le = 1 << iota
		ld
		we
		wd
		last = le | ld
		weak = we | wd
		all  = last | weak
	)
	for _, x := range []struct {
		base  string
		want  string
		where int // the orderings in which only these attacks are defeats, of those that compare anything
	}{
		{"premise p 1; premise ~p 2", "~p mines p", all},
		{"premise p 2; premise ~p 1", "p mines ~p", all},
		{"premise p 2; premise ~p 2", "p mines ~p; ~p mines p", all},
		{"axiom p; premise ~p 9", "p mines ~p", all},
		// an assumption is defeated by whoever attacks it
		{"assume p; premise ~p 0", "~p mines p", all},
		{"assume p; assume ~p", "p mines ~p; ~p mines p", all},
		{"assume ~p; rule d 0: => p", "~p rebuts d(); d() mines ~p", all},
		{"assume a; rule d 0: a => p; premise ~p 9", "~p rebuts d(a)", last | weak},
		{"assume a; strict s: a -> p; premise ~p 0", "", all},
		{"assume a; strict s: a -> p; premise b 9; strict u: b -> ~a", "u(b) mines a; u(b) mines s(a) @ a", all},
		// an undercut succeeds whatever the ranks
		{"premise ~d 0; rule d 9: => q", "~d cuts d()", all},
		{"assume ~d; axiom p; rule d 9: p => q", "~d cuts d(p)", all},
		{"rule e 0: => ~d; premise p 9; rule d 9: p => q; rule f 9: q => r", "e() cuts d(p); e() cuts f(d(p)) @ d(p)", all},
		// of two attacks in one place, only the undercut
		{"premise a 0; rule e 0: a => ~r; axiom b; rule r 1: b => r", "e(a) cuts r(b); r(b) rebuts e(a)", all},
		// rebuttals
		{"rule d 1: => p; rule e 2: => ~p", "e() rebuts d()", all},
		{"rule d 2: => p; rule e 2: => ~p", "d() rebuts e(); e() rebuts d()", all},
		{"rule d 9: => p; strict s: -> ~p", "s() rebuts d()", all},
		{"premise a 1; rule d 1: a => p; premise b 2; rule e 2: b => ~p", "e(b) rebuts d(a)", all},
		{"premise a 2; rule d 1: a => p; premise b 1; rule e 2: b => ~p", "e(b) rebuts d(a)", last},
		{"premise a 2; rule d 1: a => p; premise b 1; rule e 2: b => ~p", "d(a) rebuts e(b); e(b) rebuts d(a)", weak},
		// the attacked subargument counts, and neither the whole argument nor the rest of the attacker
		{"rule d 5: => p; rule e 1: p => q; rule f 3: => ~p", "d() rebuts f()", all},
		{"rule d 1: => p; rule e 9: p => q; rule f 3: => ~p", "f() rebuts d(); f() rebuts e(d()) @ d()", all},
		{"premise p 1; premise ~p 2; rule d 9: p => q", "~p mines p; ~p mines d(p) @ p", all},
		{"premise p 2; premise ~p 1; rule d 0: p => q", "p mines ~p", all},
		// one argument defeats another one at one place and fails at another one
		{"rule d 1: => p; rule e 5: p => q; rule f 3: => x; strict s: x -> ~p; strict u: x -> ~q", "s(f()) rebuts d(); s(f()) rebuts e(d()) @ d()", all &^ we},
		{"rule d 1: => p; rule e 5: p => q; rule f 3: => x; strict s: x -> ~p; strict u: x -> ~q", "s(f()) rebuts d(); s(f()) rebuts e(d()) @ d(); u(f()) rebuts e(d())", we},
		// the lift matters
		{"premise a 1; premise b 9; strict s: a, b -> p; premise ~p 5", "", le | we},
		{"premise a 1; premise b 9; strict s: a, b -> p; premise ~p 5", "s(a,b) mines ~p", ld | wd},
		// an attack from an argument with a defeasible rule on a premise fails by the last link
		{"premise p 0; rule d 9: => ~p", "p rebuts d()", last},
		{"premise p 0; rule d 9: => ~p", "p rebuts d(); d() mines p", weak},
		// who attacks himself
		{"premise p 3; strict s: p -> ~p", "s(p) mines p; s(p) mines s(p) @ p", all},
		{"premise p 3; rule d 1: p => ~p", "p rebuts d(p)", last},
		// promotions do not count here
		{"axiom a; rule d 1: => p; rule e 2: => ~p; promote d 9 if a", "e() rebuts d()", all},
	} {
		b, l := build(t, x.base)
		for n, o := range orderings[:4] {
			if got := show(b, l, Defeats(b, l, o)); x.where&(1<<n) != 0 && got != x.want {
				t.Errorf("%s: %v: %s instead of %s", x.base, o, got, x.want)
			}
		}
		for _, o := range orderings[4:] {
			if got, want := show(b, l, Defeats(b, l, o)), show(b, l, Attacks(b, l)); got != want {
				t.Errorf("%s: %v: %s instead of %s", x.base, o, got, want)
			}
		}
	}
}

// The attacks and the defeats, by the sentences of the chapter.

// hasSub reports whether the argument c is a subargument of the argument i.
func hasSub(l []api.Argument, i, c int) bool {
	return i == c || slices.ContainsFunc(l[i].Subs, func(s int) bool { return hasSub(l, s, c) })
}

func slowAttacks(b api.Base, l []api.Argument) []api.Attack {
	var all []api.Attack
	for from := range l {
		for to := range l {
			for sub := range l {
				for kind := -1; kind <= 5; kind++ {
					if hasSub(l, to, sub) && isAttacked(b, l[from].Conclusion, l[sub], kind) {
						all = append(all, api.Attack{From: from, To: to, Sub: sub, Kind: kind})
					}
				}
			}
		}
	}
	return all
}

func isAttacked(b api.Base, by api.Literal, c api.Argument, kind int) bool {
	isDefeasible := c.Rule >= 0 && !b.Rules[c.Rule].Strict
	isOpen := c.Rule < 0 && b.Premises[c.Premise].Kind != api.Axiom
	isComplement := by.Name == c.Conclusion.Name && by.Neg != c.Conclusion.Neg
	switch kind {
	case api.Undercut:
		return isDefeasible && by.Neg && by.Name == b.Rules[c.Rule].Name
	case api.Rebut:
		return isDefeasible && isComplement
	case api.Undermine:
		return isOpen && isComplement
	}
	return false
}

func slowDefeats(b api.Base, l []api.Argument, o api.Ordering) []api.Attack {
	var all []api.Attack
	for _, a := range slowAttacks(b, l) {
		if a.Kind == api.Undercut || !lift.Less(b, l, a.From, a.Sub, o) {
			all = append(all, a)
		}
	}
	return all
}

// randomBase returns a valid rule base over a few literals, some of which are about rules, with few ranks, so that many are equal.
func randomBase(random *rand.Rand) api.Base {
	universe := []api.Literal{pos("p"), neg("p"), pos("q"), neg("q"), pos("r0"), neg("r0"), neg("r1"), neg("r2")}
	pick := func() api.Literal { return universe[random.Intn(len(universe))] }
	var b api.Base
	for _, k := range random.Perm(len(universe))[:random.Intn(4)] {
		p := api.Premise{Literal: universe[k], Kind: 1 + random.Intn(3)}
		if p.Kind == api.Ordinary {
			p.Rank = random.Intn(4)
		}
		b.Premises = append(b.Premises, p)
	}
	for k := range random.Intn(7) {
		r := api.Rule{Name: "r" + strconv.Itoa(k), Strict: random.Intn(3) == 0, Head: pick()}
		if !r.Strict {
			r.Rank = random.Intn(4)
		}
		for range random.Intn(3) {
			r.Body = append(r.Body, pick())
		}
		r.Body = literal.Normal(r.Body)
		b.Rules = append(b.Rules, r)
	}
	return b
}

// randomBuilt returns random rule bases with their lists, and leaves out those without a list.
func randomBuilt(seed int64, n int) func(yield func(api.Base, []api.Argument) bool) {
	random := rand.New(rand.NewSource(seed))
	return func(yield func(api.Base, []api.Argument) bool) {
		for range n {
			b := randomBase(random)
			if l, err := argument.Build(b); err == api.OK && !yield(b, l) {
				return
			}
		}
	}
}

func TestAttacksAndDefeatsAsTheChapterSays(t *testing.T) {
	var found [api.Undercut + 1]int
	failed := 0
	for b, l := range randomBuilt(91, 3000) {
		all := Attacks(b, l)
		if !slices.Equal(all, slowAttacks(b, l)) {
			t.Fatalf("%+v: %v", b, all)
		}
		for _, a := range all {
			found[a.Kind]++
		}
		for _, o := range orderings {
			some := Defeats(b, l, o)
			if !slices.Equal(some, slowDefeats(b, l, o)) {
				t.Fatalf("%+v: %v: %v", b, o, some)
			}
			failed += len(all) - len(some)
		}
	}
	if slices.Min(found[api.Undermine:]) < 1000 || failed < 1000 {
		t.Errorf("attacks of each kind: %v; that fail: %d", found, failed)
	}
}

// The consequences.

func TestAttacksAreAscending(t *testing.T) {
	for b, l := range randomBuilt(92, 1000) {
		all := Attacks(b, l)
		for k := 1; k < len(all); k++ {
			x, y := all[k-1], all[k]
			if slices.Compare([]int{x.From, x.To, x.Sub, x.Kind}, []int{y.From, y.To, y.Sub, y.Kind}) >= 0 {
				t.Fatalf("%+v: %v before %v", b, x, y)
			}
		}
	}
}

func TestWhoAttacksAPartAttacksTheWhole(t *testing.T) {
	for b, l := range randomBuilt(93, 500) {
		lists := [][]api.Attack{Attacks(b, l)}
		for _, o := range orderings {
			lists = append(lists, Defeats(b, l, o))
		}
		for _, list := range lists {
			for _, a := range list {
				for i := range l {
					whole := api.Attack{From: a.From, To: i, Sub: a.Sub, Kind: a.Kind}
					if hasSub(l, i, a.To) && !slices.Contains(list, whole) {
						t.Fatalf("%+v: %v, but not %v", b, a, whole)
					}
				}
			}
		}
	}
}

func TestWhatIsCertainIsNotAttacked(t *testing.T) {
	certain := 0
	for b, l := range randomBuilt(94, 1000) {
		all := Attacks(b, l)
		for i := range l {
			isAxiom := func(p int) bool { return b.Premises[l[p].Premise].Kind == api.Axiom }
			premises := argument.Premises(l, i)
			if len(argument.Defeasible(b, l, i)) > 0 || slices.ContainsFunc(premises, func(p int) bool { return !isAxiom(p) }) {
				continue
			}
			certain++
			if slices.ContainsFunc(all, func(a api.Attack) bool { return a.To == i }) {
				t.Fatalf("%+v: %d is attacked", b, i)
			}
		}
	}
	if certain < 200 {
		t.Errorf("%d arguments only", certain)
	}
}

func TestWhoAttacksIsAttackedAtItsEnd(t *testing.T) {
	for b, l := range randomBuilt(95, 1000) {
		all := Attacks(b, l)
		for _, a := range all {
			from := l[a.From]
			isFirm := from.Rule >= 0 && b.Rules[from.Rule].Strict || from.Rule < 0 && b.Premises[from.Premise].Kind == api.Axiom
			if a.Kind == api.Undercut || isFirm {
				continue
			}
			back := func(x api.Attack) bool {
				return x.From == a.Sub && x.To == a.From && x.Sub == a.From && x.Kind != api.Undercut
			}
			if !slices.ContainsFunc(all, back) {
				t.Fatalf("%+v: %v", b, a)
			}
		}
	}
}

func TestWhoeverAttacksAnAssumptionDefeats(t *testing.T) {
	attacked := 0
	for b, l := range randomBuilt(96, 1000) {
		all := Attacks(b, l)
		for _, o := range orderings {
			defeats := Defeats(b, l, o)
			for _, a := range all {
				if !lift.Assumes(b, l, a.Sub) {
					continue
				}
				attacked++
				if !lift.Assumes(b, l, a.To) || !slices.Contains(defeats, a) {
					t.Fatalf("%+v: %v: %v", b, o, a)
				}
			}
		}
	}
	if attacked < 1000 {
		t.Errorf("%d attacks only", attacked)
	}
}

// R1: for lists that do not come from Build the results are not specified, but the functions end.

func TestOtherLists(t *testing.T) {
	random := rand.New(rand.NewSource(97))
	b, _ := build(t, "assume p; premise r 3; strict s: p -> q; rule d 0: q => p; strict u: -> q")
	b.Premises[1].Kind = 7
	wild := []int{math.MinInt, -1, 0, 1, 2, 3, 4, 5, 1000, math.MaxInt}
	pick := func() int { return wild[random.Intn(len(wild))] }
	literals := []api.Literal{{}, pos("p"), neg("p"), neg("d"), {Neg: true}}
	for range 5000 {
		l := make([]api.Argument, random.Intn(6))
		for i := range l {
			l[i] = api.Argument{Premise: pick(), Rule: pick(), Conclusion: literals[random.Intn(len(literals))]}
			for range random.Intn(5) {
				l[i].Subs = append(l[i].Subs, pick())
			}
		}
		for _, o := range orderings {
			Defeats(b, l, o)
			Defeats(api.Base{}, l, o)
		}
		if found := Attacks(api.Base{}, l); len(found) > 0 {
			t.Fatalf("without a rule base: %v", found)
		}
		Attacks(b, l)
	}
}

func TestAListOfAnotherRuleBase(t *testing.T) {
	_, l := build(t, "axiom a; premise p 1; premise ~p 2; assume u; rule d 1: p => r; rule e 2: ~p => ~r; strict s: p, r -> w")
	for _, lines := range []string{"", "assume x", "rule f 3: => x", "premise x 2; rule f 3: => x; strict g: x -> y"} {
		b, _ := build(t, lines)
		Attacks(b, l)
		for _, o := range orderings {
			Defeats(b, l, o)
		}
	}
}

func TestALongList(t *testing.T) {
	const n = 2000
	b, l := build(t, "premise p 4; axiom ~p; strict s: p -> q")
	l = l[:2]
	for k := 2; k < n; k++ {
		l = append(l, api.Argument{Premise: -1, Rule: 0, Subs: []int{0}, Conclusion: pos("q")})
	}
	attacks := Attacks(b, l)
	if len(attacks) != n-1 || !slices.Equal(attacks, Defeats(b, l, orderings[0])) {
		t.Errorf("%d attacks", len(attacks))
	}
	for k, a := range attacks[1:] {
		if want := (api.Attack{From: 1, To: k + 2, Sub: 0, Kind: api.Undermine}); a != want {
			t.Fatalf("%v instead of %v", a, want)
		}
	}
}

func TestAsManyArgumentsAsThereCanBe(t *testing.T) {
	lines := "premise p 1; premise ~p 1; "
	for k := range api.MaxPremises - 2 {
		lines += "premise a" + strconv.Itoa(k) + " 2; "
	}
	for k := range api.MaxRules / 2 {
		lines += "rule d" + strconv.Itoa(k) + " 1: p => q; rule e" + strconv.Itoa(k) + " 1: ~p => ~q; "
	}
	b, l := build(t, lines)
	if len(l) != api.MaxArguments {
		t.Fatalf("%d arguments", len(l))
	}
	// p and ~p undermine each other and 12 rules; each of the 24 rules rebuts 12 others
	if got := Attacks(b, l); len(got) != 2*13+24*12 || !slices.Equal(got, slowAttacks(b, l)) {
		t.Errorf("%d attacks: %v", len(got), got)
	}
}

// R2

// roomy returns copies of a rule base and its list that have something behind the ends of their slices.
func roomy(b api.Base, l []api.Argument) (api.Base, []api.Argument) {
	c := api.Base{Promotions: append(slices.Clone(b.Promotions), api.Promotion{Rule: "spare"})[:len(b.Promotions)]}
	c.Premises = append(slices.Clone(b.Premises), api.Premise{Literal: pos("spare"), Kind: api.Assumption})[:len(b.Premises)]
	for _, r := range b.Rules {
		r.Body = append(slices.Clone(r.Body), neg("spare"), neg("more"))[:len(r.Body)]
		c.Rules = append(c.Rules, r)
	}
	c.Rules = append(c.Rules, api.Rule{Name: "spare", Rank: 9})[:len(b.Rules)]
	var m []api.Argument
	for _, a := range l {
		a.Subs = append(slices.Clone(a.Subs), 88, 89)[:len(a.Subs)]
		m = append(m, a)
	}
	return c, append(m, api.Argument{Premise: 0, Rule: -1, Conclusion: neg("p")})[:len(l)]
}

// whole returns a rule base and a list together with what is behind the ends of their slices, copied.
func whole(b api.Base, l []api.Argument) (api.Base, []api.Argument) {
	c := api.Base{Premises: slices.Clone(b.Premises[:cap(b.Premises)]), Rules: slices.Clone(b.Rules[:cap(b.Rules)]), Promotions: slices.Clone(b.Promotions[:cap(b.Promotions)])}
	for i, r := range c.Rules {
		c.Rules[i].Body = slices.Clone(r.Body[:cap(r.Body)])
	}
	m := slices.Clone(l[:cap(l)])
	for i, a := range m {
		m[i].Subs = slices.Clone(a.Subs[:cap(a.Subs)])
	}
	return c, m
}

func sameArgument(x, y api.Argument) bool {
	return x.Premise == y.Premise && x.Rule == y.Rule && x.Conclusion == y.Conclusion && slices.Equal(x.Subs, y.Subs)
}

func TestAttacksLeaveTheirArguments(t *testing.T) {
	b, l := roomy(build(t, "premise p 4; assume ~p; premise q 2; rule d 1: p => r; rule e 3: q => ~r; strict s: q -> ~d; promote d 3 if q"))
	base, list := whole(b, l)
	for _, o := range orderings {
		for _, f := range []func() []api.Attack{func() []api.Attack { return Attacks(b, l) }, func() []api.Attack { return Defeats(b, l, o) }} {
			first, second := f(), f()
			want := slices.Clone(second)
			for k := range first[:cap(first)] {
				first[:cap(first)][k] = api.Attack{From: 77, To: 78, Sub: 79, Kind: 80}
			}
			if len(want) == 0 || !slices.Equal(second, want) || !slices.Equal(f(), want) {
				t.Errorf("%v: %v and %v instead of %v", o, second, f(), want)
			}
		}
	}
	afterBase, afterList := whole(b, l)
	if !rulebase.Same(base, afterBase) || !slices.EqualFunc(list, afterList, sameArgument) {
		t.Errorf("changed: %v, %v", afterBase, afterList)
	}
}
