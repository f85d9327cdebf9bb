package strict

import (
	"math/rand"
	"slices"
	"strconv"
	"strings"
	"testing"

	"deliberation/api"
	"deliberation/literal"
	"deliberation/rulebase"
)

func pos(name string) api.Literal         { return api.Literal{Name: name} }
func neg(name string) api.Literal         { return api.Literal{Neg: true, Name: name} }
func list(l ...api.Literal) []api.Literal { return l }
func rules(l ...api.Rule) api.Base        { return api.Base{Rules: l} }
func axiom(x api.Literal) api.Premise     { return api.Premise{Literal: x, Kind: api.Axiom} }

// strictly is a strict rule without a name.
func strictly(head api.Literal, body ...api.Literal) api.Rule {
	return api.Rule{Strict: true, Body: body, Head: head}
}

// parse returns the rule base with these lines.
func parse(t *testing.T, lines ...string) api.Base {
	t.Helper()
	b, n, err := rulebase.Parse(strings.Join(append(slices.Clone(lines), ""), "\n"))
	if err != api.OK {
		t.Fatalf("%q: %d at the line %d", lines, err, n)
	}
	return b
}

// literals returns the literals with these texts.
func literals(t *testing.T, text string) []api.Literal {
	t.Helper()
	var l []api.Literal
	for _, word := range strings.Fields(text) {
		x, err := literal.Parse(word)
		if err != api.OK {
			t.Fatalf("%q: %d", word, err)
		}
		l = append(l, x)
	}
	return l
}

// Small sets of literals are numbers: the bit i stands for the literal i, and the literals 2k and 2k+1 are complements of each other. They ascend as their numbers do.

// numbered returns the literal with a number.
func numbered(i int) api.Literal {
	return api.Literal{Neg: i%2 == 1, Name: string([]byte{byte('a' + i/2)})}
}

// setOf returns the literals of a small set, ascending.
func setOf(set uint) []api.Literal {
	var l []api.Literal
	for i := range 20 {
		if set>>i&1 == 1 {
			l = append(l, numbered(i))
		}
	}
	return l
}

// bitsOf returns the small set of the literals of a list.
func bitsOf(l []api.Literal) uint {
	set := uint(0)
	for _, x := range l {
		i := 2 * int(x.Name[0]-'a')
		if x.Neg {
			i++
		}
		set |= 1 << i
	}
	return set
}

// closedSet reports whether a small set is closed under the strict rules.
func closedSet(b api.Base, set uint) bool {
	for _, r := range b.Rules {
		body, head := bitsOf(r.Body), bitsOf(list(r.Head))
		if r.Strict && body&^set == 0 && head&^set != 0 {
			return false
		}
	}
	return true
}

// leastClosed returns what all closed sets of n literals that contain a set have in common.
func leastClosed(b api.Base, set uint, n int) uint {
	least := uint(1)<<n - 1
	for s := range uint(1) << n {
		if set&^s == 0 && closedSet(b, s) {
			least &= s
		}
	}
	return least
}

// bitsClosure returns the Closure of a small set as a small set.
func bitsClosure(t *testing.T, b api.Base, set uint) uint {
	t.Helper()
	l := Closure(b, setOf(set))
	got := bitsOf(l)
	if !slices.Equal(l, setOf(got)) {
		t.Fatalf("the closure of %v is not in order: %v", setOf(set), l)
	}
	return got
}

// randomLiterals returns some of n literals, in any order and also repeatedly.
func randomLiterals(random *rand.Rand, most, n int) []api.Literal {
	l := make([]api.Literal, random.Intn(most+1))
	for i := range l {
		l[i] = numbered(random.Intn(n))
	}
	return l
}

// randomBase returns rules over n literals; most rule bases like this are not valid.
func randomBase(random *rand.Rand, n int) api.Base {
	var b api.Base
	for range random.Intn(8) {
		r := api.Rule{Name: "r", Strict: random.Intn(4) > 0, Rank: random.Intn(20), Body: randomLiterals(random, 3, n), Head: numbered(random.Intn(n))}
		b.Rules = append(b.Rules, r)
	}
	return b
}

// P6.1

func TestClosureOfSomeRules(t *testing.T) {
	b := parse(t,
		"axiom u", "premise v 3", "assume w",
		"strict s1: p, q -> r", "strict s2: c -> d", "strict s3: b -> c", "strict s4: a -> b", "strict s5: d -> a",
		"rule d1 9: p => x", "rule d2 0: => x", "strict s6: y -> y", "strict s7: e, ~e, f, ~f -> g", "strict s8: -> h", "strict s9: h, p -> ~p",
		"promote d1 3 if p")
	for i, x := range []struct{ from, want string }{
		{"", "h"}, {"p", "h p ~p"}, {"q", "h q"}, {"p q", "h p ~p q r"}, {"q p q p p", "h p ~p q r"}, {"p ~q", "h p ~p ~q"}, {"~p q", "h ~p q"},
		{"a", "a b c d h"}, {"c", "a b c d h"}, {"d", "a b c d h"}, {"~a", "~a h"}, {"r", "h r"}, {"y", "h y"}, {"~h", "h ~h"}, {"h h", "h"},
		{"e ~e f", "e ~e f h"}, {"~f f ~e e", "e ~e f ~f g h"}, {"u v w x", "h u v w x"}, {"zz_1 ~zz_1 zz", "h zz zz_1 ~zz_1"},
	} {
		from, want := literals(t, x.from), literals(t, x.want)
		if got := Closure(b, from); !slices.Equal(got, want) {
			t.Errorf("case %d: %v", i, got)
		}
		for _, y := range literals(t, "a ~a b c d e ~e f g h ~h p ~p q ~q r ~r u v w x y zz zz_1 ~zz_1") {
			if Derives(b, from, y) != slices.Contains(want, y) {
				t.Errorf("case %d: Derives of %v", i, y)
			}
		}
	}
	if got := Closure(api.Base{}, nil); len(got) != 0 {
		t.Errorf("from nothing: %v", got)
	}
	if Derives(api.Base{}, nil, api.Literal{}) || Derives(b, nil, api.Literal{}) {
		t.Error("a literal without a name is derived")
	}
}

func TestClosureOfInvalidRuleBases(t *testing.T) {
	for i, x := range []struct {
		rule       api.Rule
		from, want []api.Literal
	}{
		{api.Rule{Strict: true}, nil, list(pos(""))},
		{api.Rule{Strict: true, Rank: 77, Name: "P", Head: neg("~")}, list(pos("B"), pos("A")), list(pos("A"), pos("B"), neg("~"))},
		{api.Rule{}, list(neg("")), list(neg(""))},
		{strictly(pos("q"), pos(""), pos("")), list(pos("")), list(pos(""), pos("q"))},
		{strictly(pos("q"), pos(""), pos("")), list(neg("")), list(neg(""))},
		{strictly(pos("q"), pos("b"), pos("a"), pos("b")), list(pos("a")), list(pos("a"))},
		{strictly(pos("q"), pos("b"), pos("a"), pos("b")), list(pos("b")), list(pos("b"))},
		{strictly(pos("q"), pos("b"), pos("a"), pos("b")), list(pos("a"), pos("b")), list(pos("a"), pos("b"), pos("q"))},
		{strictly(pos("q"), pos("e"), pos("d"), pos("c"), pos("b"), pos("a")), setOf(0b101010101), list(pos("a"), pos("b"), pos("c"), pos("d"), pos("e"), pos("q"))},
		{strictly(pos("q"), pos("e"), pos("d"), pos("c"), pos("b"), pos("a")), setOf(0b101010100), list(pos("b"), pos("c"), pos("d"), pos("e"))},
		{strictly(pos("\xff"), pos("\xfe")), list(pos("\xfe"), neg("\xff")), list(pos("\xfe"), pos("\xff"), neg("\xff"))},
	} {
		b := api.Base{Premises: make([]api.Premise, 20), Rules: append(make([]api.Rule, 30), x.rule)}
		if got := Closure(b, x.from); !slices.Equal(got, x.want) {
			t.Errorf("case %d: %#v", i, got)
		}
		for _, y := range append(list(pos(""), neg(""), pos("a"), pos("q"), pos("\xff")), x.want...) {
			if Derives(b, x.from, y) != slices.Contains(x.want, y) {
				t.Errorf("case %d: Derives of %q", i, y.Name)
			}
		}
	}
}

func TestClosureIsTheLeastClosedSet(t *testing.T) {
	random := rand.New(rand.NewSource(6))
	const n = 6
	for range 300 {
		b := randomBase(random, n)
		for set := range uint(1) << n {
			want := leastClosed(b, set, n)
			if got := bitsClosure(t, b, set); got != want {
				t.Fatalf("%v: the closure of %v: %v", b, setOf(set), setOf(got))
			}
			for i := range n {
				if Derives(b, setOf(set), numbered(i)) != (want>>i&1 == 1) {
					t.Fatalf("%v: from %v: Derives of %v", b, setOf(set), numbered(i))
				}
			}
		}
		l := randomLiterals(random, 6, n)
		if got, want := Closure(b, l), Closure(b, literal.Normal(l)); !slices.Equal(got, want) {
			t.Fatalf("%v: the closure of %v: %v", b, l, got)
		}
	}
}

func TestClosureIsMonotoneAndIdempotent(t *testing.T) {
	random := rand.New(rand.NewSource(61))
	const n = 6
	for range 100 {
		b := randomBase(random, n)
		for set := range uint(1) << n {
			got := bitsClosure(t, b, set)
			if set&^got != 0 || bitsClosure(t, b, got) != got {
				t.Fatalf("%v: the closure of %v: %v", b, setOf(set), setOf(got))
			}
			more := set | uint(random.Intn(1<<n))
			if got&^bitsClosure(t, b, more) != 0 {
				t.Fatalf("%v: more follows from %v than from %v", b, setOf(set), setOf(more))
			}
		}
	}
}

// number returns a name for each number.
func number(k int) string { return "n" + strconv.Itoa(k) }

func TestClosureOfManyRules(t *testing.T) {
	const n = 100000
	var backwards, wide api.Base
	long := strictly(pos("end"))
	for k := range n {
		// the last rule of the chain comes first
		backwards.Rules = append(backwards.Rules, strictly(pos(number(n-k)), pos(number(n-k-1)), pos("all")))
		wide.Rules = append(wide.Rules, strictly(pos(number(k)), pos("all")))
		long.Body = append(long.Body, pos(number(k)))
	}
	wide.Rules = append(wide.Rules, long)
	for i, x := range []struct {
		b    api.Base
		l    []api.Literal
		want int
		end  bool
	}{
		{backwards, list(pos(number(0)), pos("all")), n + 2, false}, {backwards, list(pos(number(0))), 1, false}, {backwards, list(pos(number(n-1)), pos("all")), 3, false},
		{wide, list(pos("all")), n + 2, true}, {wide, long.Body, n + 1, true}, {wide, long.Body[1:], n - 1, false},
	} {
		if got := Closure(x.b, x.l); len(got) != x.want {
			t.Errorf("case %d: %d literals", i, len(got))
		}
		if Derives(x.b, x.l, pos("end")) != x.end {
			t.Errorf("case %d: Derives: %v", i, !x.end)
		}
	}
}

func TestAxioms(t *testing.T) {
	premise := func(x api.Literal, kind int) api.Premise { return api.Premise{Literal: x, Kind: kind} }
	for i, x := range []struct {
		premises []api.Premise
		want     []api.Literal
	}{
		{nil, nil},
		{parse(t, "premise p 3", "assume q").Premises, nil},
		{parse(t, "axiom q from ann", "premise p 0", "axiom ~p", "assume r", "axiom a_1").Premises, list(pos("a_1"), neg("p"), pos("q"))},
		{parse(t, "axiom ~p", "axiom p").Premises, list(pos("p"), neg("p"))},
		{[]api.Premise{axiom(pos("p")), axiom(pos("P")), axiom(pos("p")), axiom(pos(""))}, list(pos(""), pos("P"), pos("p"))},
		{[]api.Premise{{Literal: neg("p"), Kind: api.Axiom, Rank: 50, Source: "?"}, axiom(neg("p"))}, list(neg("p"))},
		{[]api.Premise{premise(pos("a"), 0), premise(pos("b"), 4), premise(pos("c"), -1), premise(pos("d"), 257), premise(pos("e"), 1)}, list(pos("e"))},
		{make([]api.Premise, 1000), nil},
	} {
		b := api.Base{Premises: x.premises, Rules: rules(strictly(pos("z"))).Rules}
		if got := Axioms(b); !slices.Equal(got, x.want) {
			t.Errorf("case %d: %v", i, got)
		}
	}
}

// R2

// clone returns a copy of b that shares no memory with it.
func clone(b api.Base) api.Base {
	c := api.Base{Premises: slices.Clone(b.Premises), Rules: slices.Clone(b.Rules), Promotions: slices.Clone(b.Promotions)}
	for i := range c.Rules {
		c.Rules[i].Body = slices.Clone(c.Rules[i].Body)
	}
	return c
}

// roomy returns a copy of b whose lists have something behind their ends.
func roomy(b api.Base) api.Base {
	c := clone(b)
	c.Premises = append(c.Premises, axiom(pos("spare")))[:len(b.Premises)]
	c.Rules = append(c.Rules, api.Rule{Name: "spare", Body: list(pos("spare"))})[:len(b.Rules)]
	c.Promotions = append(c.Promotions, api.Promotion{Rule: "spare", Rank: 3, If: pos("spare")})[:len(b.Promotions)]
	for i, r := range c.Rules {
		c.Rules[i].Body = append(r.Body, neg("spare"), neg("more"))[:len(r.Body)]
	}
	return c
}

// whole returns b with all that its lists have room for.
func whole(b api.Base) api.Base {
	c := api.Base{Premises: b.Premises[:cap(b.Premises)], Rules: slices.Clone(b.Rules[:cap(b.Rules)]), Promotions: b.Promotions[:cap(b.Promotions)]}
	for i, r := range c.Rules {
		c.Rules[i].Body = r.Body[:cap(r.Body)]
	}
	return c
}

// spoil changes all memory that b has.
func spoil(b api.Base) {
	for i := range b.Premises[:cap(b.Premises)] {
		b.Premises[:cap(b.Premises)][i] = axiom(pos("spoilt"))
	}
	for i := range b.Promotions[:cap(b.Promotions)] {
		b.Promotions[:cap(b.Promotions)][i] = api.Promotion{Rule: "spoilt"}
	}
	for i, r := range b.Rules[:cap(b.Rules)] {
		spoilList(r.Body)
		b.Rules[:cap(b.Rules)][i] = api.Rule{Name: "spoilt"}
	}
}

func spoilList(l []api.Literal) {
	for i := range l[:cap(l)] {
		l[:cap(l)][i] = pos("spoilt")
	}
}

func TestArgumentsStayAsTheyAre(t *testing.T) {
	for i, start := range []api.Base{
		{},
		parse(t, "axiom q", "axiom p", "premise u 2", "strict s: p, q -> r", "strict u: r -> ~a", "rule d 1: p, q => r", "promote d 4 if p"),
		parse(t, "strict s: p, ~p -> q", "strict u: -> p"),
		parse(t, "strict s: p -> q", "strict u: ~q -> ~p"),
		{Premises: []api.Premise{axiom(pos("q")), axiom(pos("p")), axiom(pos("q"))}, Rules: []api.Rule{strictly(pos("r"), pos("q"), pos("p"), pos("q")), {}, strictly(pos("p"), pos("p"))}},
	} {
		b := roomy(start)
		l := append(list(pos("q"), pos("p"), pos("q")), pos("spare"))[:3]
		before := clone(whole(b))
		var bases [2]api.Base
		var lists [4][]api.Literal
		for k := range 2 {
			Closed(b)
			Sound(b)
			Derives(b, l, pos("r"))
			lists[k], lists[k+2] = Closure(b, l), Axioms(b)
			bases[k], _ = Transpose(b)
		}
		closure, axioms, unspoilt := slices.Clone(lists[1]), slices.Clone(lists[3]), clone(bases[1])
		spoilList(lists[0])
		spoilList(lists[2])
		spoil(bases[0])
		if !rulebase.Same(whole(b), before) || !slices.Equal(l[:4], list(pos("q"), pos("p"), pos("q"), pos("spare"))) {
			t.Errorf("rule base %d changed: %v, %v", i, b, l)
		}
		if !slices.Equal(lists[1], closure) || !slices.Equal(lists[3], axioms) || !rulebase.Same(bases[1], unspoilt) {
			t.Errorf("rule base %d: two results share memory", i)
		}
	}
}

// TestBodiesOfOneResult sees that the bodies of a result share no memory with each other.
func TestBodiesOfOneResult(t *testing.T) {
	b := parse(t, "strict s: a, b, c -> e", "rule d 1: a, b => c")
	for k := range 5 {
		got, err := Transpose(b)
		if err != api.OK || len(got.Rules) != 5 {
			t.Fatalf("%d, %v", err, got)
		}
		want := clone(got)
		spoilList(got.Rules[k].Body)
		got.Rules[k].Body = want.Rules[k].Body
		if !rulebase.Same(got, want) {
			t.Errorf("the body %d shares memory with another one", k)
		}
	}
}
