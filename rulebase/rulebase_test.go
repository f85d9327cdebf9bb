package rulebase

import (
	"math"
	"slices"
	"strings"
	"testing"

	"deliberation/api"
)

func pos(name string) api.Literal         { return api.Literal{Name: name} }
func neg(name string) api.Literal         { return api.Literal{Neg: true, Name: name} }
func list(l ...api.Literal) []api.Literal { return l }
func premises(l ...api.Premise) api.Base  { return api.Base{Premises: l} }
func rules(l ...api.Rule) api.Base        { return api.Base{Rules: l} }
func axiom(x api.Literal) api.Premise     { return api.Premise{Literal: x, Kind: api.Axiom} }
func ordinary(x api.Literal, r int) api.Premise {
	return api.Premise{Literal: x, Kind: api.Ordinary, Rank: r}
}

// sample returns a valid rule base with every kind of element, in new memory.
func sample() api.Base {
	return api.Base{
		Premises: []api.Premise{
			axiom(pos("p")),
			{Literal: neg("p"), Kind: api.Ordinary, Rank: 3, Source: "ann"},
			{Literal: pos("q"), Kind: api.Assumption, Source: "bob_2"},
			ordinary(pos("u"), 0),
		},
		Rules: []api.Rule{
			{Name: "s1", Strict: true, Body: list(pos("a"), pos("b"), pos("c")), Head: pos("r")},
			{Name: "d1", Rank: 2, Body: list(pos("b"), pos("c"), neg("c")), Head: neg("t")},
			{Name: "s2", Strict: true, Head: neg("d1")},
			{Name: "p", Rank: 9, Head: pos("p")},
		},
		Promotions: []api.Promotion{
			{Rule: "d1", Rank: 5, If: pos("q")},
			{Rule: "p", Rank: 0, If: neg("d1")},
			{Rule: "d1", Rank: 1, If: neg("q")},
		},
	}
}

// changed returns the sample with these changes.
func changed(changes ...func(*api.Base)) api.Base {
	b := sample()
	for _, change := range changes {
		change(&b)
	}
	return b
}

// named returns a name of twelve bytes for each number below 676.
func named(k int) string {
	return "abcdefghij" + string([]byte{byte('a' + k/26), byte('a' + k%26)})
}

// full returns the largest rule base, with the longest text.
func full() api.Base {
	var b api.Base
	for k := range api.MaxPremises {
		b.Premises = append(b.Premises, api.Premise{Literal: neg(named(k)), Kind: api.Ordinary, Rank: k % 10, Source: named(k)})
	}
	for k := range api.MaxRules {
		body := list(neg(named(1)), neg(named(2)), neg(named(3)), neg(named(4)))
		b.Rules = append(b.Rules, api.Rule{Name: named(k), Rank: k % 10, Body: body, Head: neg(named(k))})
	}
	for k := range api.MaxPromotions {
		b.Promotions = append(b.Promotions, api.Promotion{Rule: named(k), Rank: k, If: neg(named(k))})
	}
	return b
}

// P5.1

func TestValidRuleBases(t *testing.T) {
	for i, b := range []api.Base{
		{},
		{Premises: []api.Premise{}, Rules: []api.Rule{}, Promotions: []api.Promotion{}},
		sample(),
		full(),
		premises(axiom(pos("p")), axiom(neg("p"))),
		premises(ordinary(pos("p"), 0), ordinary(pos("q"), api.MaxRank)),
		premises(api.Premise{Literal: pos("p"), Kind: api.Assumption, Source: "p"}),
		rules(api.Rule{Name: "s", Strict: true, Head: pos("s")}),
		rules(api.Rule{Name: "d", Head: neg("d"), Rank: api.MaxRank}),
		rules(api.Rule{Name: "d", Body: list(pos("p")), Head: pos("p")}),
		rules(api.Rule{Name: "d", Body: list(pos("p"), neg("p")), Head: pos("p")}),
		rules(api.Rule{Name: "d", Body: list(pos("a"), pos("b"), pos("c"), pos("d")), Head: pos("p")}),
		rules(api.Rule{Name: "d", Head: pos("p")}, api.Rule{Name: "e", Head: pos("p")}),
		changed(func(b *api.Base) { b.Promotions[1] = b.Promotions[0] }),
		changed(func(b *api.Base) { b.Promotions[1].Rank = api.MaxRank }),
	} {
		if err := Validate(b); err != api.OK {
			t.Errorf("rule base %d: %d", i, err)
		}
	}
}

func TestLimitsOfValidate(t *testing.T) {
	more := full()
	more.Premises = append(more.Premises, axiom(pos("p")))
	limited := []api.Base{more}
	more = full()
	more.Rules = append(more.Rules, api.Rule{Name: "d", Head: pos("p")})
	limited = append(limited, more)
	more = full()
	more.Promotions = append(more.Promotions, more.Promotions[0])
	limited = append(limited, more)
	for _, n := range []int{25, 1000, 100000} {
		limited = append(limited, api.Base{Premises: make([]api.Premise, n)}, api.Base{Rules: make([]api.Rule, n)}, api.Base{Promotions: make([]api.Promotion, n)})
	}
	for i, b := range limited {
		if err := Validate(b); err != api.ErrLimit {
			t.Errorf("rule base %d: %d", i, err)
		}
	}
}

// notNames are texts that are no names.
var notNames = []string{"", "P", "~p", "1", "_a", "p q", "p ", "p:", "p,", "p\n", "é", "\xff", "abcdefghijklm"}

// notRanks are numbers that are no ranks.
var notRanks = []int{-1, api.MaxRank + 1, 256, math.MaxInt, math.MinInt}

func TestNamesAndRanksInValidate(t *testing.T) {
	for _, s := range notNames {
		for i, change := range []func(*api.Base){
			func(b *api.Base) { b.Premises[0].Literal.Name = s },
			func(b *api.Base) { b.Premises[3].Literal = neg(s) },
			func(b *api.Base) { b.Rules[0].Name = s },
			func(b *api.Base) { b.Rules[3].Name = s },
			func(b *api.Base) { b.Rules[2].Head = neg(s) },
			func(b *api.Base) { b.Rules[0].Body[0].Name = s },
			func(b *api.Base) { b.Rules[1].Body[2] = neg(s) },
			func(b *api.Base) { b.Promotions[0].If = neg(s) },
			func(b *api.Base) { b.Promotions[2].If.Name = s },
		} {
			if err := Validate(changed(change)); err != api.ErrRange {
				t.Errorf("%q, change %d: %d", s, i, err)
			}
		}
		want := api.ErrRange
		if s == "" {
			want = api.OK
		}
		for i := range sample().Premises {
			if err := Validate(changed(func(b *api.Base) { b.Premises[i].Source = s })); err != want {
				t.Errorf("source %q: %d", s, err)
			}
		}
		if err := Validate(changed(func(b *api.Base) { b.Promotions[1].Rule = s })); err != api.ErrMissing {
			t.Errorf("promotion of %q: %d", s, err)
		}
	}
	for rank := -1000; rank <= 1000; rank++ {
		checkRank(t, rank)
	}
	for _, rank := range notRanks {
		checkRank(t, rank)
	}
}

// checkRank sees where Validate allows a rank: everywhere, only if it is 0, or nowhere.
func checkRank(t *testing.T, rank int) {
	t.Helper()
	for i, x := range []struct {
		most   int
		change func(*api.Base)
	}{
		{0, func(b *api.Base) { b.Premises[0].Rank = rank }},
		{9, func(b *api.Base) { b.Premises[1].Rank = rank }},
		{0, func(b *api.Base) { b.Premises[2].Rank = rank }},
		{0, func(b *api.Base) { b.Rules[0].Rank = rank }},
		{9, func(b *api.Base) { b.Rules[1].Rank = rank }},
		{9, func(b *api.Base) { b.Promotions[0].Rank = rank }},
	} {
		want := api.ErrRange
		if 0 <= rank && rank <= x.most {
			want = api.OK
		}
		if err := Validate(changed(x.change)); err != want {
			t.Errorf("rank %d, change %d: %d", rank, i, err)
		}
	}
}

func TestKindsInValidate(t *testing.T) {
	for _, kind := range []int{0, 4, 5, -1, 257, math.MaxInt, math.MinInt} {
		for i := range sample().Premises {
			if err := Validate(changed(func(b *api.Base) { b.Premises[i].Kind = kind })); err != api.ErrKind {
				t.Errorf("premise %d of the kind %d: %d", i, kind, err)
			}
		}
	}
	for _, name := range []string{"s1", "s2"} {
		if err := Validate(changed(func(b *api.Base) { b.Promotions[1].Rule = name })); err != api.ErrKind {
			t.Errorf("promotion of the strict rule %s: %d", name, err)
		}
	}
	for _, name := range []string{"s", "d", "q", "r", "d11", "zz"} {
		if err := Validate(changed(func(b *api.Base) { b.Promotions[2].Rule = name })); err != api.ErrMissing {
			t.Errorf("promotion of %s: %d", name, err)
		}
	}
}

func TestOrderOfBodies(t *testing.T) {
	for i, body := range [][]api.Literal{
		list(pos("q"), pos("p")), list(pos("p"), pos("p")), list(neg("p"), neg("p")), list(neg("p"), pos("p")), list(pos("q"), neg("p")),
		list(pos("a"), pos("b"), pos("c"), pos("b")), list(pos("a"), pos("b"), pos("c"), pos("c")), list(pos("b"), pos("a"), pos("c"), pos("d")), list(pos("a"), neg("a"), pos("a")), list(pos("a_"), pos("a1")),
	} {
		for k := range sample().Rules {
			if err := Validate(changed(func(b *api.Base) { b.Rules[k].Body = body })); err != api.ErrOrder {
				t.Errorf("body %d of the rule %d: %d", i, k, err)
			}
		}
	}
}

func TestDuplicates(t *testing.T) {
	for i, x := range sample().Premises {
		for k := range i {
			if err := Validate(changed(func(b *api.Base) { b.Premises[k].Literal = x.Literal })); err != api.ErrDuplicate {
				t.Errorf("premises %d and %d: %d", k, i, err)
			}
		}
	}
	b := sample()
	b.Promotions = nil
	for i, x := range sample().Rules {
		for k := range i {
			before := b.Rules[k].Name
			b.Rules[k].Name = x.Name
			if err := Validate(b); err != api.ErrDuplicate {
				t.Errorf("rules %d and %d: %d", k, i, err)
			}
			b.Rules[k].Name = before
		}
	}
}

// fault makes the sample invalid.
type fault struct {
	err    api.Errno
	change func(*api.Base)
}

// faults returns faults in the order in which Validate finds them; any two of them can be made together.
func faults() []fault {
	return []fault{
		{api.ErrLimit, func(b *api.Base) { b.Premises = append(b.Premises, make([]api.Premise, 13)...) }},
		{api.ErrLimit, func(b *api.Base) { b.Rules = append(b.Rules, make([]api.Rule, 21)...) }},
		{api.ErrLimit, func(b *api.Base) { b.Promotions = append(b.Promotions, make([]api.Promotion, 6)...) }},
		{api.ErrKind, func(b *api.Base) { b.Premises[0].Kind = 4 }},
		{api.ErrRange, func(b *api.Base) { b.Premises[0].Source = "A" }},
		{api.ErrKind, func(b *api.Base) { b.Premises[1].Kind = 0 }},
		{api.ErrRange, func(b *api.Base) { b.Premises[1].Rank = 10 }},
		{api.ErrDuplicate, func(b *api.Base) { b.Premises[1].Literal = b.Premises[0].Literal }},
		{api.ErrKind, func(b *api.Base) { b.Premises[3].Kind = -1 }},
		{api.ErrRange, func(b *api.Base) { b.Premises[3].Literal.Name = "u u" }},
		{api.ErrLimit, func(b *api.Base) { b.Rules[0].Body = append(b.Rules[0].Body, pos("d"), pos("e")) }},
		{api.ErrRange, func(b *api.Base) { b.Rules[0].Body[0].Name = "" }},
		{api.ErrOrder, func(b *api.Base) { b.Rules[0].Body[1] = pos("z") }},
		{api.ErrLimit, func(b *api.Base) { b.Rules[1].Body = append(b.Rules[1].Body, pos("d"), pos("e")) }},
		{api.ErrRange, func(b *api.Base) { b.Rules[1].Head.Name = "T" }},
		{api.ErrOrder, func(b *api.Base) { b.Rules[1].Body[0] = neg("c") }},
		{api.ErrDuplicate, func(b *api.Base) { b.Rules[1].Name = "s1" }},
		{api.ErrRange, func(b *api.Base) { b.Rules[2].Rank = 1 }},
		{api.ErrRange, func(b *api.Base) { b.Promotions[0].Rank = -1 }},
		{api.ErrMissing, func(b *api.Base) { b.Promotions[0].Rule = "zz" }},
		{api.ErrRange, func(b *api.Base) { b.Promotions[1].If.Name = "~d1" }},
		{api.ErrKind, func(b *api.Base) { b.Promotions[1].Rule = "s2" }},
		{api.ErrRange, func(b *api.Base) { b.Promotions[2].Rank = 10 }},
	}
}

func TestFirstErrorOfValidate(t *testing.T) {
	for i, first := range faults() {
		for k, second := range faults()[i:] {
			b := changed(second.change, first.change)
			if err := Validate(b); err != first.err {
				t.Errorf("faults %d and %d: %d instead of %d", i, i+k, err, first.err)
			}
			if s, err := Format(b); err != first.err || s != "" {
				t.Errorf("faults %d and %d: Format: %d, %q", i, i+k, err, s)
			}
		}
	}
}

// P5.3

// repeated returns a rule base that is not valid: its names and literals occur more than once, and are none.
func repeated() api.Base {
	return api.Base{
		Premises:   []api.Premise{axiom(pos("P")), axiom(neg("P")), {}, ordinary(neg("P"), 50), ordinary(pos(""), -1)},
		Rules:      []api.Rule{{Name: "X", Rank: 40, Body: list(pos("z"), pos(""))}, {}, {Name: "X", Strict: true, Rank: 7}, {Name: "X", Rank: -3}, {Rank: 2}},
		Promotions: []api.Promotion{{Rule: "X", Rank: 99, If: pos("")}, {Rule: "", Rank: -5, If: neg("P")}, {Rule: "y", Rank: 1, If: neg("P")}},
	}
}

func TestFind(t *testing.T) {
	for i, x := range []struct {
		base api.Base
		name string
		want int
	}{
		{sample(), "s1", 0}, {sample(), "d1", 1}, {sample(), "s2", 2}, {sample(), "p", 3}, {sample(), "s", -1}, {sample(), "q", -1}, {sample(), "", -1}, {sample(), "~p", -1}, {sample(), "P", -1},
		{full(), named(23), 23}, {full(), named(24), -1}, {api.Base{}, "", -1}, {api.Base{}, "p", -1}, {premises(axiom(pos("p"))), "p", -1},
		{repeated(), "X", 0}, {repeated(), "", 1}, {repeated(), "P", -1}, {api.Base{Rules: make([]api.Rule, 100000)}, "p", -1},
	} {
		if got := Find(x.base, x.name); got != x.want {
			t.Errorf("case %d, %q: %d", i, x.name, got)
		}
	}
}

func TestPremise(t *testing.T) {
	for i, x := range []struct {
		base    api.Base
		literal api.Literal
		want    int
	}{
		{sample(), pos("p"), 0}, {sample(), neg("p"), 1}, {sample(), pos("q"), 2}, {sample(), pos("u"), 3}, {sample(), neg("q"), -1}, {sample(), neg("u"), -1}, {sample(), pos("r"), -1}, {sample(), pos(""), -1},
		{full(), neg(named(15)), 15}, {full(), neg(named(16)), -1}, {full(), pos(named(15)), -1}, {api.Base{}, pos(""), -1}, {rules(api.Rule{Name: "p", Head: pos("p")}), pos("p"), -1},
		{repeated(), pos("P"), 0}, {repeated(), neg("P"), 1}, {repeated(), pos(""), 2}, {repeated(), neg(""), -1},
	} {
		if got := Premise(x.base, x.literal); got != x.want {
			t.Errorf("case %d, %v: %d", i, x.literal, got)
		}
	}
}

// ranksOf returns the ranks of the rules.
func ranksOf(b api.Base) []int {
	var ranks []int
	for _, r := range b.Rules {
		ranks = append(ranks, r.Rank)
	}
	return ranks
}

func TestPromote(t *testing.T) {
	for i, x := range []struct {
		base     api.Base
		accepted []api.Literal
		want     []int
	}{
		{sample(), nil, []int{0, 2, 0, 9}},
		{sample(), list(), []int{0, 2, 0, 9}},
		{sample(), list(pos("q")), []int{0, 5, 0, 9}},
		{sample(), list(neg("q")), []int{0, 1, 0, 9}},
		{sample(), list(pos("q"), neg("q")), []int{0, 1, 0, 9}},
		{sample(), list(neg("q"), pos("q")), []int{0, 1, 0, 9}},
		{sample(), list(neg("d1")), []int{0, 2, 0, 0}},
		{sample(), list(pos("q"), neg("d1"), pos("q")), []int{0, 5, 0, 0}},
		{sample(), list(pos("d1"), pos("p"), pos("u"), pos("")), []int{0, 2, 0, 9}},
		{api.Base{}, list(pos("q")), nil},
		{repeated(), nil, []int{40, 0, 7, -3, 2}},
		{repeated(), list(pos("")), []int{99, 0, 7, 99, 2}},
		{repeated(), list(neg("P")), []int{40, -5, 7, -3, -5}},
		{repeated(), list(neg("P"), pos("")), []int{99, -5, 7, 99, -5}},
	} {
		want := clone(x.base)
		for k := range want.Rules {
			want.Rules[k].Rank = x.want[k]
		}
		got := Promote(x.base, x.accepted)
		if !slices.Equal(ranksOf(got), x.want) || !equal(got, want) {
			t.Errorf("case %d: %v", i, got)
		}
		if again := Promote(got, x.accepted); !equal(again, got) {
			t.Errorf("case %d, again: %v", i, again)
		}
		if Validate(x.base) == api.OK && Validate(got) != api.OK {
			t.Errorf("case %d: the promotion makes the rule base invalid", i)
		}
	}
}

func TestPromoteOfManyElements(t *testing.T) {
	const n = 50000
	b := api.Base{Rules: make([]api.Rule, n), Promotions: make([]api.Promotion, n)}
	accepted := make([]api.Literal, n)
	for i := range n {
		name := strings.Repeat("x", i%100)
		b.Rules[i] = api.Rule{Name: name, Rank: -1}
		b.Promotions[i] = api.Promotion{Rule: name, Rank: i, If: pos(name)}
		accepted[i] = pos(name)
	}
	for i, rank := range ranksOf(Promote(b, accepted)) {
		if rank != n-100+i%100 {
			t.Fatalf("rule %d: %d", i, rank)
		}
	}
}

// clone returns a copy of b that shares no memory with it.
func clone(b api.Base) api.Base {
	c := api.Base{Premises: slices.Clone(b.Premises), Rules: slices.Clone(b.Rules), Promotions: slices.Clone(b.Promotions)}
	for i := range c.Rules {
		c.Rules[i].Body = slices.Clone(c.Rules[i].Body)
	}
	return c
}

// equal compares rule bases in another way than Same.
func equal(a, b api.Base) bool {
	equalRules := func(x, y api.Rule) bool {
		bodies := slices.Equal(x.Body, y.Body)
		return bodies && x.Name == y.Name && x.Strict == y.Strict && x.Rank == y.Rank && x.Head == y.Head
	}
	return slices.Equal(a.Premises, b.Premises) && slices.Equal(a.Promotions, b.Promotions) && slices.EqualFunc(a.Rules, b.Rules, equalRules)
}

// roomy returns a copy of b whose lists have something behind their ends.
func roomy(b api.Base) api.Base {
	c := clone(b)
	c.Premises = append(c.Premises, axiom(pos("spare")))[:len(b.Premises)]
	c.Rules = append(c.Rules, api.Rule{Name: "spare", Body: list(pos("spare"))})[:len(b.Rules)]
	c.Promotions = append(c.Promotions, api.Promotion{Rule: "spare", Rank: 3, If: pos("spare")})[:len(b.Promotions)]
	for i, r := range c.Rules {
		c.Rules[i].Body = append(r.Body, neg("spare"))[:len(r.Body)]
	}
	return c
}

// whole returns b with all that its lists have room for.
func whole(b api.Base) api.Base {
	c := api.Base{Premises: b.Premises[:cap(b.Premises)], Rules: slices.Clone(b.Rules[:cap(b.Rules)]), Promotions: b.Promotions[:cap(b.Promotions)]}
	for i, r := range c.Rules {
		c.Rules[i].Body = r.Body[:cap(r.Body)]
	}
	return c
}

func TestArgumentsStayAsTheyAre(t *testing.T) {
	for i, start := range []api.Base{{}, sample(), full(), repeated(), changed(func(b *api.Base) { slices.Reverse(b.Rules[0].Body) })} {
		b := roomy(start)
		accepted := append(list(pos("q"), neg("d1")), pos("spare"))[:2]
		before := clone(whole(b))
		Validate(b)
		Format(b)
		Find(b, "d1")
		Premise(b, pos("q"))
		Same(b, clone(b))
		Same(clone(b), b)
		first, second := Promote(b, accepted), Promote(b, accepted)
		unspoilt := clone(first)
		spoil(second)
		if !equal(whole(b), before) || !slices.Equal(accepted[:3], list(pos("q"), neg("d1"), pos("spare"))) {
			t.Errorf("rule base %d changed: %v", i, b)
		}
		if !equal(first, unspoilt) {
			t.Errorf("rule base %d: two results share memory", i)
		}
	}
}

// spoil changes all memory that b has.
func spoil(b api.Base) {
	for i := range b.Premises[:cap(b.Premises)] {
		b.Premises[:cap(b.Premises)][i] = axiom(pos("spoilt"))
	}
	for i := range b.Promotions[:cap(b.Promotions)] {
		b.Promotions[:cap(b.Promotions)][i] = api.Promotion{Rule: "spoilt"}
	}
	for i, r := range b.Rules[:cap(b.Rules)] {
		for k := range r.Body[:cap(r.Body)] {
			r.Body[:cap(r.Body)][k] = pos("spoilt")
		}
		b.Rules[:cap(b.Rules)][i] = api.Rule{Name: "spoilt"}
	}
}

func TestSame(t *testing.T) {
	for _, b := range []api.Base{{}, sample(), full(), repeated()} {
		if !Same(b, b) || !Same(b, clone(b)) || !Same(roomy(b), clone(b)) {
			t.Errorf("%v is not the same as itself", b)
		}
	}
	empty := api.Base{Premises: []api.Premise{}, Rules: []api.Rule{}, Promotions: []api.Promotion{}}
	if !Same(api.Base{}, empty) || !Same(empty, api.Base{}) {
		t.Error("empty lists are not the same as none")
	}
	noBody := changed(func(b *api.Base) { b.Rules[2].Body = list() })
	if !Same(sample(), noBody) || !Same(noBody, sample()) {
		t.Error("an empty body is not the same as none")
	}
	for i, change := range []func(*api.Base){
		func(b *api.Base) { b.Premises[0].Literal.Neg = true }, func(b *api.Base) { b.Premises[0].Literal.Name = "a" }, func(b *api.Base) { b.Premises[3].Kind = 3 }, func(b *api.Base) { b.Premises[3].Rank = 1 }, func(b *api.Base) { b.Premises[3].Source = "ann" },
		func(b *api.Base) { b.Premises = b.Premises[:3] }, func(b *api.Base) { b.Premises = nil }, func(b *api.Base) { slices.Reverse(b.Premises) },
		func(b *api.Base) { b.Rules[0].Name = "s" }, func(b *api.Base) { b.Rules[3].Strict = true }, func(b *api.Base) { b.Rules[3].Rank = 8 }, func(b *api.Base) { b.Rules[0].Head.Neg = true }, func(b *api.Base) { b.Rules[0].Head.Name = "s" },
		func(b *api.Base) { b.Rules[0].Body[2].Neg = true }, func(b *api.Base) { b.Rules[0].Body[0].Name = "" }, func(b *api.Base) { b.Rules[0].Body = b.Rules[0].Body[:2] }, func(b *api.Base) { b.Rules[2].Body = list(pos("")) }, func(b *api.Base) { slices.Reverse(b.Rules[0].Body) },
		func(b *api.Base) { b.Rules = b.Rules[:3] }, func(b *api.Base) { b.Rules = append(b.Rules, api.Rule{}) }, func(b *api.Base) { slices.Reverse(b.Rules) },
		func(b *api.Base) { b.Promotions[0].Rule = "p" }, func(b *api.Base) { b.Promotions[2].Rank = 0 }, func(b *api.Base) { b.Promotions[2].If.Neg = false }, func(b *api.Base) { b.Promotions[2].If.Name = "p" },
		func(b *api.Base) { b.Promotions = b.Promotions[:2] }, func(b *api.Base) { b.Promotions = nil }, func(b *api.Base) { slices.Reverse(b.Promotions) },
	} {
		if Same(sample(), changed(change)) || Same(changed(change), sample()) {
			t.Errorf("change %d makes no difference", i)
		}
	}
}
