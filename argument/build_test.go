package argument

import (
	"math/rand"
	"reflect"
	"slices"
	"strconv"
	"strings"
	"testing"

	"deliberation/api"
	"deliberation/literal"
	"deliberation/rulebase"
)

func pos(name string) api.Literal         { return api.Literal{Name: name} }
func neg(name string) api.Literal         { return api.Literal{Neg: true, Name: name} }
func list(l ...api.Literal) []api.Literal { return l }
func axiom(x api.Literal) api.Premise     { return api.Premise{Literal: x, Kind: api.Axiom} }

// parse returns the rule base with these lines, which are separated by semicolons.
func parse(t *testing.T, lines ...string) api.Base {
	t.Helper()
	var text strings.Builder
	for _, line := range strings.Split(strings.Join(lines, ";"), ";") {
		if line = strings.TrimSpace(line); line != "" {
			text.WriteString(line + "\n")
		}
	}
	b, n, err := rulebase.Parse(text.String())
	if err != api.OK {
		t.Fatalf("%q: %d at the line %d", lines, err, n)
	}
	return b
}

// show returns the arguments of a list as words: the literal of a premise; or the name of a rule, its subarguments, and its head.
func show(b api.Base, l []api.Argument) string {
	var words []string
	for _, a := range l {
		word := literal.Format(a.Conclusion)
		switch {
		case a.Rule == -1 && len(a.Subs) == 0 && b.Premises[a.Premise].Literal == a.Conclusion:
		case a.Premise == -1 && b.Rules[a.Rule].Head == a.Conclusion:
			word = b.Rules[a.Rule].Name + "(" + numbers(a.Subs) + ")" + word
		default:
			word = "?"
		}
		words = append(words, word)
	}
	return strings.Join(words, " ")
}

func numbers(l []int) string {
	var words []string
	for _, n := range l {
		words = append(words, strconv.Itoa(n))
	}
	return strings.Join(words, ",")
}

// repeat returns n lines, in which each # is the number of the line.
func repeat(n int, line string) string {
	var all strings.Builder
	for k := range n {
		all.WriteString(strings.ReplaceAll(line, "#", strconv.Itoa(k)) + ";")
	}
	return all.String()
}

// slowBuild constructs the list of b sentence by sentence, from all sequences of earlier arguments. It stops and returns false when there are more than most arguments.
func slowBuild(b api.Base, most int) ([]api.Argument, bool) {
	var l []api.Argument
	var rounds []int
	for i, p := range b.Premises {
		l, rounds = append(l, api.Argument{Premise: i, Rule: -1, Conclusion: p.Literal}), append(rounds, 0)
	}
	for k := 1; ; k++ {
		n := len(l)
		for i, r := range b.Rules {
			for number := range power(n, len(r.Body)) {
				subs := digits(number, n, len(r.Body))
				if !fits(l, subs, r.Body) || roundOf(rounds, subs) != k || !slowWithin(b, l, i, subs) {
					continue
				}
				l, rounds = append(l, api.Argument{Premise: -1, Rule: i, Subs: subs, Conclusion: r.Head}), append(rounds, k)
				if len(l) > most {
					return nil, false
				}
			}
		}
		if len(l) == n {
			return l, true
		}
	}
}

func power(n, exponent int) int {
	p := 1
	for range exponent {
		p *= n
	}
	return p
}

// digits returns the digits of a number in the base n, the most significant one first.
func digits(number, n, length int) []int {
	d := make([]int, length)
	for k := length - 1; k >= 0; k-- {
		d[k] = number % n
		number /= n
	}
	return d
}

func fits(l []api.Argument, subs []int, body []api.Literal) bool {
	for k, s := range subs {
		if l[s].Conclusion != body[k] {
			return false
		}
	}
	return true
}

// roundOf returns the round behind the latest one of some arguments.
func roundOf(rounds, subs []int) int {
	latest := 0
	for _, s := range subs {
		latest = max(latest, rounds[s])
	}
	return latest + 1
}

func slowWithin(b api.Base, l []api.Argument, rule int, subs []int) bool {
	for _, s := range subs {
		if b.Rules[rule].Strict && slowRun(b, l, s)[b.Rules[rule].Head] || !b.Rules[rule].Strict && slowTops(l, s)[rule] {
			return false
		}
	}
	return true
}

func slowRun(b api.Base, l []api.Argument, i int) map[api.Literal]bool {
	run := map[api.Literal]bool{l[i].Conclusion: true}
	if l[i].Rule >= 0 && b.Rules[l[i].Rule].Strict {
		for _, s := range l[i].Subs {
			for x := range slowRun(b, l, s) {
				run[x] = true
			}
		}
	}
	return run
}

func slowTops(l []api.Argument, i int) map[int]bool {
	tops := map[int]bool{l[i].Rule: true}
	for _, s := range l[i].Subs {
		for r := range slowTops(l, s) {
			tops[r] = true
		}
	}
	return tops
}

// randomBase returns a valid rule base over a few literals.
func randomBase(random *rand.Rand) api.Base {
	universe := list(pos("p"), neg("p"), pos("q"), neg("q"), pos("r"), pos("s"))[:2+random.Intn(5)]
	pick := func() api.Literal { return universe[random.Intn(len(universe))] }
	var b api.Base
	for _, x := range universe {
		if random.Intn(3) == 0 {
			b.Premises = append(b.Premises, api.Premise{Literal: x, Kind: api.Axiom + 2*random.Intn(2)})
		}
	}
	random.Shuffle(len(b.Premises), func(i, j int) { b.Premises[i], b.Premises[j] = b.Premises[j], b.Premises[i] })
	for k := range random.Intn(7) {
		r := api.Rule{Name: "r" + strconv.Itoa(k), Strict: random.Intn(2) == 0, Head: pick()}
		for range random.Intn(4) {
			r.Body = append(r.Body, pick())
		}
		r.Body = literal.Normal(r.Body)
		b.Rules = append(b.Rules, r)
	}
	return b
}

// checkBuild compares the result of Build with the slow construction. It returns whether there is a list.
func checkBuild(t *testing.T, b api.Base) bool {
	t.Helper()
	got, err := Build(b)
	want, ok := slowBuild(b, api.MaxArguments)
	if ok != (err == api.OK) || !ok && err != api.ErrLimit {
		t.Fatalf("%+v: %d, but a list: %v", b, err, ok)
	}
	if !slices.EqualFunc(got, want, sameArgument) {
		t.Fatalf("%+v: %s, instead of %s", b, show(b, got), show(b, want))
	}
	return ok
}

func sameArgument(x, y api.Argument) bool {
	return x.Premise == y.Premise && x.Rule == y.Rule && x.Conclusion == y.Conclusion && slices.Equal(x.Subs, y.Subs)
}

// P7.1

func TestBuildOfSomeRuleBases(t *testing.T) {
	for _, x := range []struct{ base, want string }{
		{"", ""},
		{"rule d 1: p => q; strict s: q -> p", ""},
		{"premise q 3 from ann; axiom p; assume ~p; axiom a", "q p ~p a"},
		{"premise p 1; rule d 1: p => q; strict s: q -> p", "p d(0)q s(1)p"},
		{"premise p 1; strict s: p -> q; strict t: q -> p", "p s(0)q"},
		// a literal and its negation, and names of which one begins the other, are different
		{"axiom p; rule d 0: ~p => q; rule e 0: p1 => q; strict s: p -> ~p", "p s(0)~p d(1)q"},
		{"axiom ~p; rule d 0: ~p => p", "~p d(0)p"},
		// each choice; their order is that of the indices, not that of the rounds or of the literals
		{"axiom b; axiom a; rule d 1: => a; rule e 1: => b; strict s: a, b -> c", "b a d()a e()b s(1,0)c s(1,3)c s(2,0)c s(2,3)c"},
		{"axiom b; axiom a; rule s 1: a, b => c; rule d 1: => a; rule e 1: => b", "b a s(1,0)c d()a e()b s(1,4)c s(3,0)c s(3,4)c"},
		{"axiom a; axiom b; axiom c; axiom d; rule z 0: => b; rule y 0: z => d; strict s: a, b, c, d -> e; strict u: -> z", "a b c d z()b s(0,1,2,3)e u()z y(6)d s(0,4,2,3)e s(0,1,2,7)e s(0,4,2,7)e"},
		{"axiom a; rule d 0: b => c; rule e 0: a => b; rule f 0: c => a", "a e(0)b d(1)c f(2)a"},
		// an argument is built in the round behind the latest one of its subarguments
		{"axiom a; rule f 0: a, c => e; rule d 0: a => b; rule e 0: b => c; rule g 0: a, b => f", "a d(0)b e(1)c g(0,1)f f(0,2)e"},
		// rules with an empty body stand in round 1 only, also if there are no premises
		{"strict s: -> p", "s()p"},
		{"rule d 3: => p", "d()p"},
		{"rule d 3: => p; strict s: -> p; rule e 2: p => q", "d()p s()p e(0)q e(1)q"},
		{"axiom p; rule e 2: p => q; strict s: -> p; rule f 0: q => r; rule d 3: => p", "p e(0)q s()p d()p e(2)q e(3)q f(1)r f(4)r f(5)r"},
		{"rule d 0: => ~d; strict s: ~d -> d", "d()~d s(0)d"},
		// rules that are alike are different rules
		{"axiom p; rule d 1: p => q; rule e 1: p => q; strict s: p -> q; strict t: p -> q", "p d(0)q e(0)q s(0)q t(0)q"},
		// promotions and ranks do not matter
		{"axiom p; rule d 9: p => q; rule e 0: p => q; promote d 0 if p; promote e 5 if ~q", "p d(0)q e(0)q"},
	} {
		b := parse(t, x.base)
		l, err := Build(b)
		if got := show(b, l); err != api.OK || got != x.want {
			t.Errorf("%s: %d, %s", x.base, err, got)
		}
	}
}

func TestTheCutOfDefeasibleRules(t *testing.T) {
	for _, x := range []struct{ base, want string }{
		{"axiom p; rule d 0: p => p", "p d(0)p"},
		{"axiom p; rule d 0: p => q; rule e 0: q => p", "p d(0)q e(1)p"},
		{"axiom p; rule d 0: p => p; rule e 0: p => p", "p d(0)p e(0)p d(2)p e(1)p"},
		// far below, through strict rules and through other defeasible ones
		{"axiom p; rule d 0: p => q; strict s: q -> r; rule e 0: r => t; strict u: t -> p", "p d(0)q s(1)r e(2)t u(3)p"},
		// in one of several subarguments, whether it is the first one or the last one
		{"axiom p; axiom q; rule d 0: p, q => p", "p q d(0,1)p"},
		{"axiom p; axiom q; rule d 0: p, q => q", "p q d(0,1)q"},
		{"axiom p; axiom q; rule d 0: p, q => r; strict s: q, r -> q; strict u: r -> p", "p q d(0,1)r u(2)p"},
		// the rule is in no subargument although its head is concluded there, also twice
		{"axiom p; axiom q; rule d 0: p, q => q; rule e 0: q => q", "p q d(0,1)q e(1)q d(0,3)q e(2)q"},
		// rules with the indices 0 and 1 are told apart from premises with these
		{"axiom p; axiom q; rule d 0: p => r; rule e 0: q, r => t", "p q d(0)r e(1,2)t"},
	} {
		b := parse(t, x.base)
		l, err := Build(b)
		if got := show(b, l); err != api.OK || got != x.want {
			t.Errorf("%s: %d, %s", x.base, err, got)
		}
	}
}

func TestTheCutOfStrictRules(t *testing.T) {
	for _, x := range []struct{ base, want string }{
		{"axiom p; strict s: p -> p", "p"},
		{"axiom p; strict s: p -> q; strict u: q -> r; strict v: r -> p; strict w: r -> q", "p s(0)q u(1)r"},
		// the conclusion of a defeasible rule is at the lower end of the run, what is below it is not
		{"rule d 0: => p; strict s: p -> q; strict u: q -> p", "d()p s(0)q"},
		{"axiom p; rule d 0: p => q; strict s: q -> q", "p d(0)q"},
		{"axiom p; rule d 0: p => q; strict s: q -> r; strict u: r -> q; strict v: r -> p", "p d(0)q s(1)r v(2)p"},
		// a strict rule can stand twice in a branch
		{"axiom p; strict s: p -> q; rule d 0: q => p", "p s(0)q d(1)p s(2)q"},
		// the run goes down to all subarguments
		{"axiom p; axiom q; strict s: p, q -> r; strict u: r -> p; strict v: r -> q; strict w: r -> t", "p q s(0,1)r w(2)t"},
		{"axiom p; axiom q; strict s: p, q -> q", "p q"},
		{"axiom p; axiom q; strict s: p, q -> p", "p q"},
		{"axiom p; axiom q; rule d 0: => p; strict s: p -> r; strict u: q, r -> p", "p q d()p s(0)r s(2)r"},
		// in no run is the complement of a literal for this one
		{"axiom p; strict s: p -> ~p; strict u: ~p -> q; strict v: q -> p", "p s(0)~p u(1)q"},
	} {
		b := parse(t, x.base)
		l, err := Build(b)
		if got := show(b, l); err != api.OK || got != x.want {
			t.Errorf("%s: %d, %s", x.base, err, got)
		}
	}
}

func TestLimitOfBuild(t *testing.T) {
	chain := "axiom a0;"
	for k := range 7 {
		from, to := strconv.Itoa(k), strconv.Itoa(k+1)
		chain += "rule d" + from + " 0: a" + from + " => a" + to + "; rule e" + from + " 0: a" + from + " => a" + to + ";"
	}
	for _, x := range []struct {
		base string
		n    int // the number of arguments, 0 if there are too many
	}{
		{repeat(16, "axiom p#") + repeat(24, "strict r#: -> p0"), 40},
		{repeat(16, "axiom p#") + repeat(24, "rule r# 0: p# => q"), 32},
		{repeat(16, "axiom p#") + repeat(23, "rule r# 0: p0 => q#") + "rule z 0: q5 => z", 40},
		{repeat(16, "axiom p#") + repeat(22, "rule r# 0: p0 => q#") + "rule y 0: p0 => q5; rule z 0: q5 => z", 0},
		{"axiom p;" + repeat(6, "rule r# 0: p => q") + repeat(5, "strict s#: q -> t"), 37},
		{"axiom p; axiom u;" + repeat(6, "rule r# 0: p => q") + repeat(5, "strict s#: q -> t") + "rule a 0: p => v", 39},
		{"axiom p; axiom u; axiom v;" + repeat(6, "rule r# 0: p => q") + repeat(5, "strict s#: q -> t") + "rule a 0: p => v", 40},
		{"axiom p; axiom u; axiom v; axiom w;" + repeat(6, "rule r# 0: p => q") + repeat(5, "strict s#: q -> t") + "rule a 0: p => v", 0},
		{"axiom p; axiom q;" + repeat(5, "rule r# 0: p => p") + "rule d 0: p => p", 0},
		{chain, 0},
		{repeat(4, "strict p#: -> a; strict q#: -> b; strict r#: -> c; strict t#: -> d") + "rule d 0: a, b, c, d => e", 0},
		{repeat(4, "strict p#: -> a; strict q#: -> b; strict r#: -> c; strict t#: -> d") + repeat(8, "strict u#: a, b, c, d -> a"), 16},
		{"axiom x;" + repeat(7, "rule x# 0: => x") + "strict sa: x -> a; strict sb: x -> b; strict sc: x -> c; strict sd: x -> d;" + repeat(13, "strict u#: a, b, c, d -> x"), 40},
	} {
		b := parse(t, x.base)
		l, err := Build(b)
		if len(l) != x.n || x.n > 0 && err != api.OK || x.n == 0 && err != api.ErrLimit {
			t.Errorf("%s: %d arguments, %d", x.base, len(l), err)
		}
		checkSoon(t, b)
	}
}

// checkSoon compares Build with the slow construction unless that takes too long.
func checkSoon(t *testing.T, b api.Base) {
	t.Helper()
	for _, r := range b.Rules {
		if len(r.Body) > 2 {
			return
		}
	}
	checkBuild(t, b)
}

func TestErrorsOfBuild(t *testing.T) {
	// this one has too many arguments
	start := parse(t, repeat(16, "axiom p#")+repeat(12, "rule r# 0: p0 => p0")+"rule d 0: p0 => q; promote d 3 if q")
	if l, err := Build(start); err != api.ErrLimit || l != nil {
		t.Fatalf("%d arguments, %d", len(l), err)
	}
	for i, x := range []struct {
		change func(b *api.Base)
		want   api.Errno
	}{
		{func(b *api.Base) { b.Premises[3].Kind = 4 }, api.ErrKind},
		{func(b *api.Base) { b.Premises[3].Rank = 1 }, api.ErrRange},
		{func(b *api.Base) { b.Premises[3].Literal.Name = "" }, api.ErrRange},
		{func(b *api.Base) { b.Premises[15].Literal = b.Premises[0].Literal }, api.ErrDuplicate},
		{func(b *api.Base) { b.Premises = append(b.Premises, axiom(pos("p"))) }, api.ErrLimit},
		{func(b *api.Base) { b.Rules = append(b.Rules, make([]api.Rule, 12)...) }, api.ErrLimit},
		{func(b *api.Base) { b.Rules[12].Body = list(pos("a"), pos("b"), pos("c"), pos("d"), pos("e")) }, api.ErrLimit},
		{func(b *api.Base) { b.Rules[12].Body = list(pos("p1"), pos("p0")) }, api.ErrOrder},
		{func(b *api.Base) { b.Rules[12].Body = list(pos("p0"), pos("p0")) }, api.ErrOrder},
		{func(b *api.Base) { b.Rules[12].Head = neg("Q") }, api.ErrRange},
		{func(b *api.Base) { b.Rules[12].Rank = -1 }, api.ErrRange},
		{func(b *api.Base) { b.Rules[12].Name = "r3" }, api.ErrDuplicate},
		{func(b *api.Base) { b.Promotions[0].Rule = "e" }, api.ErrMissing},
		{func(b *api.Base) { b.Promotions[0].Rank = 10 }, api.ErrRange},
		{func(b *api.Base) { b.Rules[12].Strict = true }, api.ErrKind},
		{func(b *api.Base) { b.Premises[15].Kind, b.Rules[0].Name = 0, "" }, api.ErrKind},
		{func(b *api.Base) { b.Promotions = make([]api.Promotion, 9) }, api.ErrLimit},
		{func(b *api.Base) { b.Rules = make([]api.Rule, 1000000) }, api.ErrLimit},
		{func(b *api.Base) { b.Rules[0].Body = make([]api.Literal, 1000000) }, api.ErrLimit},
	} {
		b := clone(start)
		x.change(&b)
		if l, err := Build(b); err != x.want || err != rulebase.Validate(b) || l != nil {
			t.Errorf("change %d: %d arguments, %d", i, len(l), err)
		}
	}
	if l, err := Build(api.Base{Rules: []api.Rule{{}}}); err != api.ErrRange || l != nil {
		t.Errorf("a rule without a name: %d arguments, %d", len(l), err)
	}
}

func TestEverySmallRuleBase(t *testing.T) {
	var rules []api.Rule
	for _, head := range list(pos("p"), pos("q")) {
		for _, body := range [][]api.Literal{nil, list(pos("p")), list(pos("q")), list(pos("p"), pos("q"))} {
			rules = append(rules, api.Rule{Body: body, Head: head}, api.Rule{Body: body, Head: head, Strict: true})
		}
	}
	for set := range 4 {
		var b api.Base
		for i, x := range list(pos("q"), pos("p")) {
			if set>>i&1 == 1 {
				b.Premises = append(b.Premises, axiom(x))
			}
		}
		for n := range 4 {
			for number := range power(len(rules), n) {
				b.Rules = nil
				for k, d := range digits(number, len(rules), n) {
					b.Rules = append(b.Rules, rules[d])
					b.Rules[k].Name = "r" + strconv.Itoa(k)
				}
				checkBuild(t, b)
			}
		}
	}
}

func TestBuildAsTheChapterSays(t *testing.T) {
	random := rand.New(rand.NewSource(7))
	lists := 0
	for range 3000 {
		if checkBuild(t, randomBase(random)) {
			lists++
		}
	}
	if lists < 1000 || lists > 2990 {
		t.Errorf("%d rule bases have a list", lists)
	}
}

// treeOf returns an argument written out, without any index.
func treeOf(b api.Base, l []api.Argument, i int) string {
	if l[i].Rule < 0 {
		return literal.Format(l[i].Conclusion)
	}
	var subs []string
	for _, s := range l[i].Subs {
		subs = append(subs, treeOf(b, l, s))
	}
	return b.Rules[l[i].Rule].Name + "(" + strings.Join(subs, ", ") + ")"
}

func treesOf(b api.Base, l []api.Argument) map[string]bool {
	trees := map[string]bool{}
	for i := range l {
		trees[treeOf(b, l, i)] = true
	}
	return trees
}

// derivable returns the literals that can be derived from the premises with all rules.
func derivable(b api.Base) map[api.Literal]bool {
	known := map[api.Literal]bool{}
	for _, p := range b.Premises {
		known[p.Literal] = true
	}
	for range b.Rules {
		for _, r := range b.Rules {
			if !slices.ContainsFunc(r.Body, func(x api.Literal) bool { return !known[x] }) {
				known[r.Head] = true
			}
		}
	}
	return known
}

func TestConsequences(t *testing.T) {
	random := rand.New(rand.NewSource(71))
	for range 2000 {
		b := randomBase(random)
		l, err := Build(b)
		if err != api.OK {
			continue
		}
		trees, concluded := treesOf(b, l), map[api.Literal]bool{}
		for _, a := range l {
			concluded[a.Conclusion] = true
		}
		if !reflect.DeepEqual(concluded, derivable(b)) {
			t.Fatalf("%+v: %s", b, show(b, l))
		}
		if len(trees) != len(l) {
			t.Fatalf("%+v: two arguments are equal: %s", b, show(b, l))
		}
		for _, more := range extensions(b, random) {
			all, err := Build(more)
			for tree := range treesOf(more, all) {
				delete(trees, tree)
			}
			if err == api.OK && len(trees) > 0 {
				t.Fatalf("%+v: arguments disappear: %v", more, trees)
			}
			trees = treesOf(b, l)
		}
	}
}

// extensions returns rule bases that have one premise or one rule more than b, in any place.
func extensions(b api.Base, random *rand.Rand) []api.Base {
	withPremise, withRule := clone(b), clone(b)
	withPremise.Premises = slices.Insert(withPremise.Premises, random.Intn(len(b.Premises)+1), axiom(pos("t")))
	for _, x := range list(pos("p"), neg("p"), pos("q")) {
		if rulebase.Premise(b, x) < 0 {
			withPremise.Premises = slices.Insert(withPremise.Premises, random.Intn(len(b.Premises)+1), axiom(x))
			break
		}
	}
	rule := api.Rule{Name: "more", Strict: random.Intn(2) == 0, Body: list(pos("p")), Head: pos("q")}
	withRule.Rules = slices.Insert(withRule.Rules, random.Intn(len(b.Rules)+1), rule)
	return []api.Base{withPremise, withRule}
}

// R2

// clone returns a copy of b that shares no memory with it.
func clone(b api.Base) api.Base {
	c := api.Base{Premises: slices.Clone(b.Premises), Rules: slices.Clone(b.Rules), Promotions: slices.Clone(b.Promotions)}
	for i := range c.Rules {
		c.Rules[i].Body = slices.Clone(c.Rules[i].Body)
	}
	return c
}

// roomy returns a copy of b whose lists have something behind their ends.
func roomy(b api.Base) api.Base {
	c := clone(b)
	c.Premises = append(c.Premises, axiom(pos("spare")))[:len(b.Premises)]
	c.Rules = append(c.Rules, api.Rule{Name: "spare", Body: list(pos("spare"))})[:len(b.Rules)]
	c.Promotions = append(c.Promotions, api.Promotion{Rule: "spare", Rank: 3, If: pos("spare")})[:len(b.Promotions)]
	for i, r := range c.Rules {
		c.Rules[i].Body = append(r.Body, neg("spare"), neg("more"))[:len(r.Body)]
	}
	return c
}

// whole returns b with all that its lists have room for.
func whole(b api.Base) api.Base {
	c := api.Base{Premises: b.Premises[:cap(b.Premises)], Rules: slices.Clone(b.Rules[:cap(b.Rules)]), Promotions: b.Promotions[:cap(b.Promotions)]}
	for i, r := range c.Rules {
		c.Rules[i].Body = r.Body[:cap(r.Body)]
	}
	return c
}

func cloneList(l []api.Argument) []api.Argument {
	c := slices.Clone(l)
	for i := range c {
		c[i].Subs = slices.Clone(c[i].Subs)
	}
	return c
}

// spoilNumbers changes all memory that a list has.
func spoilNumbers(l []int) {
	for i := range l[:cap(l)] {
		l[:cap(l)][i] = 77
	}
}

func TestBuildLeavesItsArgument(t *testing.T) {
	const lines = "axiom a; axiom b; rule d 1: a, b => c; rule e 0: => b; strict s: b, c -> f; strict u: a, b, c, f -> g; promote d 3 if a"
	b := roomy(parse(t, lines))
	before := clone(whole(b))
	first, _ := Build(b)
	second, _ := Build(b)
	want := cloneList(second)
	if len(want) < 10 || !slices.EqualFunc(first, second, sameArgument) {
		t.Fatalf("two results: %s and %s", show(b, first), show(b, second))
	}
	for i := range first {
		unspoilt := cloneList(first)
		spoilNumbers(first[i].Subs)
		first[i].Subs = unspoilt[i].Subs
		if !slices.EqualFunc(first, unspoilt, sameArgument) {
			t.Errorf("the argument %d shares memory with another one", i)
		}
	}
	clear(first[:cap(first)])
	if !rulebase.Same(whole(b), before) {
		t.Errorf("the rule base changed: %v", b)
	}
	for i := range b.Rules {
		b.Rules[i] = api.Rule{}
		b.Premises[i%2] = api.Premise{}
	}
	if !slices.EqualFunc(second, want, sameArgument) {
		t.Error("two results, or a result and the argument, share memory")
	}
}
