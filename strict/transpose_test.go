package strict

import (
	"math/bits"
	"math/rand"
	"slices"
	"strconv"
	"testing"

	"deliberation/api"
	"deliberation/literal"
	"deliberation/rulebase"
)

// P6.2

func TestTransposeOfSomeRules(t *testing.T) {
	for i, x := range []struct{ base, more []string }{
		{nil, nil},
		{[]string{"axiom p", "premise q 2 from ann", "rule d 1: p => q", "rule e 3: ~q => ~p"}, nil},
		{[]string{"strict s: -> p", "strict u: -> ~p"}, nil},
		{[]string{"strict s: p, q -> r"}, []string{"strict t1: q, ~r -> ~p", "strict t2: p, ~r -> ~q"}},
		{[]string{"strict s: p -> ~p"}, nil},
		{[]string{"strict s: ~p -> p"}, nil},
		{[]string{"strict s: p -> p"}, []string{"strict t1: ~p -> ~p"}},
		{[]string{"strict s: p, q -> p"}, []string{"strict t1: ~p, q -> ~p", "strict t2: p, ~p -> ~q"}},
		{[]string{"strict s: p, q -> ~p"}, []string{"strict t1: p -> ~q", "strict t2: q -> ~p"}},
		{[]string{"strict s: p, ~p -> q"}, []string{"strict t1: ~p, ~q -> ~p", "strict t2: p, ~q -> p"}},
		{[]string{"strict s: a, b, c, d -> ~e"}, []string{"strict t1: b, c, d, e -> ~a", "strict t2: a, c, d, e -> ~b", "strict t3: a, b, d, e -> ~c", "strict t4: a, b, c, e -> ~d"}},
		{[]string{"strict s: z -> a"}, []string{"strict t1: ~a -> ~z"}},
		{[]string{"strict s: p -> q", "strict u: ~q -> ~p"}, nil},
		{[]string{"strict s: p -> q", "strict u: p -> q"}, []string{"strict t1: ~q -> ~p"}},
		{[]string{"rule d 0: ~q => ~p", "strict s: p -> q"}, []string{"strict t1: ~q -> ~p"}},
		{[]string{"strict s: p -> q", "strict u: q -> r"}, []string{"strict t1: ~q -> ~p", "strict t2: ~r -> ~q"}},
		// names that exist: of strict rules, of other ones, of rules further down; and names that only look like them
		{[]string{"strict t2: a, b -> c", "rule t1 3: => ~t5", "strict t4: -> t3"}, []string{"strict t3: b, ~c -> ~a", "strict t5: a, ~c -> ~b"}},
		{[]string{"strict t01: a, b -> c", "rule t 1: => p", "rule t10 1: => p", "rule t_1 1: => t1"}, []string{"strict t1: b, ~c -> ~a", "strict t2: a, ~c -> ~b"}},
		{[]string{"axiom t1", "premise ~t2 1 from t3", "strict s: a -> b"}, []string{"strict t1: ~b -> ~a"}},
	} {
		promotions := []string{}
		if i%2 == 1 { // the appended rules stand before the promotions
			x.base = append(x.base, "rule w 5: => x")
			promotions = []string{"promote w 7 if p", "promote w 2 if x"}
		}
		b := parse(t, append(slices.Clone(x.base), promotions...)...)
		want := parse(t, append(append(slices.Clone(x.base), x.more...), promotions...)...)
		checkTranspose(t, b, want, api.OK)
	}
}

// checkTranspose compares the result of Transpose for b, and then what Closed says of it.
func checkTranspose(t *testing.T, b, want api.Base, wantErr api.Errno) {
	t.Helper()
	got, err := Transpose(b)
	if err != wantErr || !rulebase.Same(got, want) {
		t.Fatalf("%v: %d, %v", b, err, got)
	}
	if err != api.OK {
		return
	}
	if Closed(b) != rulebase.Same(b, want) || !Closed(got) {
		t.Fatalf("%v: Closed: %v, and %v of the result", b, Closed(b), Closed(got))
	}
	if rulebase.Validate(got) != api.OK {
		t.Fatalf("%v: the result is not valid: %v", b, got)
	}
}

// bitRule is a rule over a few literals, with the body as a small set and the number of the head.
type bitRule struct {
	strict bool
	body   uint
	head   int
	name   string
}

// baseOf returns the rule base with these rules.
func baseOf(l []bitRule) api.Base {
	var b api.Base
	for _, r := range l {
		b.Rules = append(b.Rules, api.Rule{Name: r.name, Strict: r.strict, Body: setOf(r.body), Head: numbered(r.head)})
	}
	return b
}

// slowTranspose appends the transposes by the words of the chapter.
func slowTranspose(given []bitRule) []bitRule {
	l := slices.Clone(given)
	for i := 0; i < len(l); i++ {
		for x := 0; x < 20 && l[i].strict; x++ {
			if l[i].body>>x&1 == 0 {
				continue
			}
			// the complement of a literal has its number with the last bit changed
			t := bitRule{strict: true, body: l[i].body&^(1<<x) | 1<<(l[i].head^1), head: x ^ 1}
			names, alike := map[string]bool{}, false
			for _, r := range l {
				names[r.name] = true
				alike = alike || r.strict && r.body == t.body && r.head == t.head
			}
			if alike {
				continue
			}
			n := 1
			for names["t"+strconv.Itoa(n)] {
				n++
			}
			t.name = "t" + strconv.Itoa(n)
			l = append(l, t)
		}
	}
	return l
}

// allPairs calls try with all pairs of strict rules over two names, which are 64 rules.
func allPairs(try func(l []bitRule)) {
	for one := range 64 {
		for two := range 64 {
			try([]bitRule{{true, uint(one / 4), one % 4, "s"}, {true, uint(two / 4), two % 4, "t2"}})
		}
	}
}

func TestTransposeOfAllPairs(t *testing.T) {
	allPairs(func(l []bitRule) {
		checkTranspose(t, baseOf(l), baseOf(slowTranspose(l)), api.OK)
	})
}

func TestTransposeOfManyRuleBases(t *testing.T) {
	random := rand.New(rand.NewSource(62))
	limited := 0
	for range 3000 {
		var l []bitRule
		for _, n := range random.Perm(30)[:random.Intn(16)] {
			r := bitRule{strict: random.Intn(3) > 0, head: random.Intn(8), name: "t" + strconv.Itoa(n)}
			for range random.Intn(api.MaxBody + 1) {
				r.body |= 1 << random.Intn(8)
			}
			l = append(l, r)
		}
		b, want, err := baseOf(l), baseOf(slowTranspose(l)), api.OK
		if len(want.Rules) > api.MaxRules {
			want, err = api.Base{}, api.ErrLimit
			limited++
		}
		checkTranspose(t, b, want, err)
	}
	if limited < 300 || limited > 2700 {
		t.Errorf("%d of the rule bases have too many transposes", limited)
	}
}

// separate returns a strict rule with a body of each length; the rules have no names in common.
func separate(lengths ...int) api.Base {
	var b api.Base
	for k, n := range lengths {
		r := api.Rule{Name: number(k), Strict: true, Head: neg("h" + number(k))}
		for i := range n {
			r.Body = append(r.Body, pos("b"+strconv.Itoa(i)+number(k)))
		}
		b.Rules = append(b.Rules, r)
	}
	return b
}

func TestLimitOfTranspose(t *testing.T) {
	for i, x := range []struct {
		lengths    []int
		defeasible int
		want       int
	}{
		{[]int{4, 4, 4, 4, 3}, 0, 24}, {[]int{4, 4, 4, 4, 4}, 0, 0}, {[]int{4, 4, 4, 4, 3}, 1, 0}, {[]int{4, 4, 4, 4}, 4, 24}, {[]int{4, 4, 4, 4}, 5, 0},
		{[]int{1, 1, 1, 1, 1, 1, 1, 1, 1, 1, 1, 1}, 0, 24}, {[]int{1, 1, 1, 1, 1, 1, 1, 1, 1, 1, 1, 1, 1}, 0, 0},
		{make([]int, 24), 0, 24}, {make([]int, 12), 12, 24}, {nil, 24, 24}, {[]int{1}, 22, 24}, {[]int{1}, 23, 0}, {[]int{2}, 21, 24}, {[]int{2}, 22, 0}, {[]int{2}, 23, 0},
	} {
		b := separate(x.lengths...)
		for k := range x.defeasible {
			b.Rules = append(b.Rules, api.Rule{Name: "d" + number(k), Rank: 1, Head: pos("p")})
		}
		got, err := Transpose(b)
		wantErr := api.OK
		if x.want == 0 {
			wantErr = api.ErrLimit
		}
		if err != wantErr || len(got.Rules) != x.want || !Closed(got) {
			t.Errorf("case %d: %d, %v", i, err, got)
		}
	}
	b := parse(t, "axiom p", "strict s: a, b, c -> e", "rule d 1: => p", "promote d 2 if p")
	for len(b.Rules) < 22 {
		b.Rules = append(b.Rules, api.Rule{Name: "e" + strconv.Itoa(len(b.Rules)), Head: pos("p")})
	}
	if got, err := Transpose(b); err != api.ErrLimit || !rulebase.Same(got, api.Base{}) {
		t.Errorf("one transpose too many: %d, %v", err, got)
	}
	once, _ := Transpose(separate(4, 4, 4, 4, 3))
	if twice, err := Transpose(once); err != api.OK || !rulebase.Same(once, twice) {
		t.Errorf("24 rules that are closed: %d, %v", err, twice)
	}
}

// invalid returns rule bases that are not valid, with their errors, and with too many transposes beside.
func invalid() map[api.Errno][]api.Base {
	full := func(change func(b *api.Base)) api.Base {
		var b api.Base
		for k := range 12 {
			b.Rules = append(b.Rules, api.Rule{Name: number(k), Strict: true, Body: list(pos("a"), pos("b")), Head: pos(number(k))})
		}
		change(&b)
		return b
	}
	return map[api.Errno][]api.Base{
		api.ErrLimit: {
			full(func(b *api.Base) { b.Premises = make([]api.Premise, 17) }),
			full(func(b *api.Base) { b.Rules = make([]api.Rule, 25) }),
			full(func(b *api.Base) { b.Promotions = make([]api.Promotion, 9) }),
			full(func(b *api.Base) { b.Rules[3].Body = list(pos("a"), pos("b"), pos("c"), pos("d"), pos("e")) }),
			{Rules: make([]api.Rule, 100000)},
		},
		api.ErrKind: {
			full(func(b *api.Base) { b.Premises = make([]api.Premise, 1) }),
			full(func(b *api.Base) { b.Promotions = []api.Promotion{{Rule: number(3), If: pos("p")}} }),
		},
		api.ErrRange: {
			full(func(b *api.Base) { b.Premises = []api.Premise{axiom(pos("P"))} }),
			full(func(b *api.Base) { b.Rules[11].Rank = 1 }),
			full(func(b *api.Base) { b.Rules[11].Head = pos("") }),
			full(func(b *api.Base) { b.Rules[0].Body[1] = neg("~b") }),
			rules(api.Rule{Name: "d", Rank: 10, Head: pos("p")}),
		},
		api.ErrOrder: {
			full(func(b *api.Base) { slices.Reverse(b.Rules[7].Body) }),
			rules(api.Rule{Name: "d", Body: list(pos("p"), pos("p")), Head: pos("p")}),
		},
		api.ErrDuplicate: {
			full(func(b *api.Base) { b.Premises = []api.Premise{axiom(pos("p")), axiom(pos("p"))} }),
			full(func(b *api.Base) { b.Rules[7].Name = number(3) }),
		},
		api.ErrMissing: {
			full(func(b *api.Base) { b.Promotions = []api.Promotion{{Rule: "d", If: pos("p")}} }),
		},
	}
}

func TestTransposeOfInvalidRuleBases(t *testing.T) {
	for want, l := range invalid() {
		for i, b := range l {
			if got, err := Transpose(b); err != want || !rulebase.Same(got, api.Base{}) {
				t.Errorf("error %d, rule base %d: %d, %v", want, i, err, got)
			}
		}
	}
}

// P6.3

// slowClosed looks for the transposes of each strict rule by the words of the chapter, where the bodies are ascending.
func slowClosed(b api.Base) bool {
	for _, r := range b.Rules {
		for _, x := range r.Body {
			body := bitsOf(r.Body)&^bitsOf(list(x)) | bitsOf(list(literal.Complement(r.Head)))
			head := literal.Complement(x)
			alike := func(y api.Rule) bool { return y.Strict && y.Head == head && slices.Equal(y.Body, setOf(body)) }
			if r.Strict && !slices.ContainsFunc(b.Rules, alike) {
				return false
			}
		}
	}
	return true
}

func TestClosedWithoutOneRule(t *testing.T) {
	random := rand.New(rand.NewSource(63))
	seen := map[bool]int{}
	for range 2000 {
		var l []bitRule
		for range 1 + random.Intn(3) {
			l = append(l, bitRule{true, uint(random.Intn(64)), random.Intn(6), "s"})
		}
		b := baseOf(slowTranspose(l))
		random.Shuffle(len(b.Rules), func(i, k int) { b.Rules[i], b.Rules[k] = b.Rules[k], b.Rules[i] })
		if !Closed(b) {
			t.Fatalf("%v is not closed", b)
		}
		for i := range b.Rules {
			less, weaker := clone(b), clone(b)
			less.Rules = slices.Delete(less.Rules, i, i+1)
			weaker.Rules[i].Strict = false
			for _, x := range []api.Base{less, weaker} {
				want := slowClosed(x)
				seen[want]++
				if Closed(x) != want {
					t.Fatalf("Closed of %v: %v", x, !want)
				}
			}
		}
	}
	if seen[true] < 100 || seen[false] < 100 {
		t.Errorf("%v", seen)
	}
}

func TestClosedOfInvalidRuleBases(t *testing.T) {
	p, q, r := pos("p"), pos("q"), pos("r")
	np, nq, nr := neg("p"), neg("q"), neg("r")
	for i, x := range []struct {
		b    api.Base
		want bool
	}{
		{rules(api.Rule{}, api.Rule{Strict: true, Rank: 50}), true},
		{api.Base{Premises: make([]api.Premise, 100), Rules: make([]api.Rule, 100), Promotions: make([]api.Promotion, 100)}, true},
		{rules(api.Rule{Rank: -1, Body: list(p, p), Head: q}), true},
		{rules(strictly(pos("Q"), pos(""))), false},
		{rules(strictly(pos("Q"), pos("")), strictly(neg(""), neg("Q"))), true},
		{rules(strictly(neg(""), pos(""))), true},
		{rules(strictly(q, p), api.Rule{Name: "?", Strict: true, Rank: 4, Body: list(nq), Head: np}), true},
		{rules(strictly(q, p), api.Rule{Body: list(nq), Head: np}), false},
		{rules(api.Rule{Body: list(nq), Head: np}, strictly(q, p), strictly(np, nq)), true},
		// a literal that is twice in a body is left out as a whole; the transposes of the transposes have it once
		{rules(strictly(q, p, p), strictly(np, nq)), false},
		{rules(strictly(q, p, p), strictly(np, nq), strictly(q, p)), true},
		{rules(strictly(q, p, p), strictly(np, nq, nq), strictly(q, p)), false},
		{rules(strictly(np, p, p)), false},
		{rules(strictly(np, p, p), strictly(np, p)), true},
		// the bodies of transposes are ascending, and bodies are lists
		{rules(strictly(r, q, p), strictly(nq, p, nr), strictly(np, q, nr)), false},
		{rules(strictly(r, q, p), strictly(nq, p, nr), strictly(np, q, nr), strictly(r, p, q)), true},
		{rules(strictly(r, p, q), strictly(nq, nr, p), strictly(np, q, nr)), false},
		{rules(strictly(r, p, q), strictly(nq, p, nr), strictly(np, q, nr)), true},
		// five literals are too many for a valid body
		{rules(strictly(r, setOf(0b101010101)...)), false},
		{baseOf(slowTranspose([]bitRule{{true, 0b10101010101, 13, ""}, {true, 0b11, 18, ""}})), true},
	} {
		if Closed(x.b) != x.want {
			t.Errorf("case %d: %v", i, !x.want)
		}
		if Sound(x.b) && rulebase.Validate(x.b) != api.OK {
			t.Errorf("case %d is sound and not valid", i)
		}
	}
}

func TestClosedOfManyRules(t *testing.T) {
	const n = 50000
	var b, star api.Base
	long := strictly(pos("end"))
	for k := range n {
		x, y := number(k), number(k+1)
		b.Rules = append(b.Rules, strictly(pos(y), pos(x)), strictly(neg(x), neg(y)))
		star.Rules = append(star.Rules, strictly(pos("h"), pos(x)), strictly(neg(x), neg("h")))
		long.Body = append(long.Body, pos(x))
	}
	if !Closed(b) || !Closed(star) {
		t.Error("rules with their transposes are not closed")
	}
	if Closed(api.Base{Rules: b.Rules[1:]}) || Closed(api.Base{Rules: star.Rules[:2*n-1]}) || Closed(rules(long)) {
		t.Error("rules without a transpose are closed")
	}
	repeated := strictly(pos("q"), make([]api.Literal, n)...)
	if !Closed(rules(repeated, strictly(neg(""), neg("q")), strictly(pos("q"), pos("")))) {
		t.Error("a literal that is often in a body makes a difference")
	}
}

func TestSound(t *testing.T) {
	for i, x := range []struct {
		want  bool
		lines []string
	}{
		{true, nil},
		{true, []string{"axiom p", "axiom ~q", "axiom r"}},
		{false, []string{"axiom p", "axiom ~p"}},
		{true, []string{"axiom p", "premise ~p 9"}},
		{true, []string{"axiom p", "assume ~p"}},
		{true, []string{"premise p 1", "premise ~p 9"}},
		// not closed
		{false, []string{"strict s: p -> q"}},
		{false, []string{"axiom p", "axiom ~q", "strict s: p -> q"}},
		{true, []string{"strict s: p -> q", "strict u: ~q -> ~p"}},
		{false, []string{"strict s: p -> q", "rule u 1: ~q => ~p"}},
		// closed, and the axioms contradict each other by the rules
		{true, []string{"axiom p", "strict s: p -> q", "strict u: ~q -> ~p"}},
		{true, []string{"axiom p", "axiom q", "strict s: p -> q", "strict u: ~q -> ~p"}},
		{false, []string{"axiom p", "axiom ~q", "strict s: p -> q", "strict u: ~q -> ~p"}},
		{true, []string{"axiom p", "premise ~q 9", "strict s: p -> q", "strict u: ~q -> ~p"}},
		{true, []string{"axiom ~p", "axiom ~q", "strict s: p -> q", "strict u: ~q -> ~p"}},
		{true, []string{"strict s: -> p"}},
		{false, []string{"strict s: -> p", "strict u: -> ~p"}},
		{false, []string{"axiom ~p", "strict s: -> p"}},
		{true, []string{"premise ~p 9", "strict s: -> p"}},
		{true, []string{"strict s: p -> ~p"}},
		{false, []string{"axiom p", "strict s: p -> ~p"}},
		{true, []string{"axiom ~p", "strict s: p -> ~p"}},
		{true, []string{"assume p", "strict s: p -> ~p"}},
		{false, []string{"axiom a", "strict s1: a -> b", "strict s2: ~b -> ~a", "strict s3: b -> c", "strict s4: ~c -> ~b", "strict s5: c -> ~a", "strict s6: a -> ~c"}},
		// rules that are not strict derive nothing here
		{true, []string{"axiom p", "rule d 1: p => q", "rule e 1: p => ~q", "rule f 1: => ~p"}},
	} {
		b := parse(t, x.lines...)
		if Sound(b) != x.want {
			t.Errorf("case %d: %v", i, !x.want)
		}
	}
}

func TestSoundOfInvalidRuleBases(t *testing.T) {
	for want, l := range invalid() {
		for i, b := range l {
			if Sound(b) {
				t.Errorf("error %d, rule base %d is sound", want, i)
			}
		}
	}
	for i, b := range []api.Base{
		{Premises: make([]api.Premise, 1)}, {Rules: make([]api.Rule, 1)}, {Promotions: make([]api.Promotion, 1)},
		rules(api.Rule{Name: "d", Rank: 10, Head: pos("p")}), rules(api.Rule{Name: "s", Strict: true, Rank: 1, Head: pos("p")}), {Premises: []api.Premise{axiom(pos("p")), axiom(pos("p"))}},
	} {
		if Sound(b) {
			t.Errorf("rule base %d is sound", i)
		}
	}
}

// closures returns the closures of all sets of n literals.
func closures(t *testing.T, b api.Base, n int) []uint {
	t.Helper()
	l := make([]uint, 1<<n)
	for set := range l {
		l[set] = bitsClosure(t, b, uint(set))
	}
	return l
}

// consistent reports whether a small set has no two complements.
func consistent(set uint) bool {
	return set&(set>>1)&0x55555555 == 0
}

// checkContraposition checks for a closed rule base what the chapter says of its closures.
func checkContraposition(t *testing.T, b api.Base, n int) {
	t.Helper()
	of := closures(t, b, n)
	for l := range uint(1) << n {
		for x := range n {
			for fresh := of[l|1<<x] &^ of[l]; fresh != 0; fresh &= fresh - 1 {
				y := bits.TrailingZeros(fresh)
				if of[l|1<<x|1<<(y^1)]>>(x^1)&1 == 0 {
					t.Fatalf("%v: from %v and %v follows %v, but not the other way round", b, setOf(l), numbered(x), numbered(y))
				}
			}
		}
		least := !consistent(of[l])
		complements := uint(0)
		for rest := l; rest != 0; rest &= rest - 1 {
			x := bits.TrailingZeros(rest)
			least = least && consistent(of[l&^(1<<x)])
			complements |= 1 << (x ^ 1)
		}
		if least && complements&^of[l] != 0 {
			t.Fatalf("%v: the closure of %v lacks a complement", b, setOf(l))
		}
	}
}

func TestContraposition(t *testing.T) {
	allPairs(func(l []bitRule) {
		b, err := Transpose(baseOf(l))
		if err != api.OK {
			t.Fatalf("%v: %d", l, err)
		}
		checkContraposition(t, b, 4)
	})
	random := rand.New(rand.NewSource(64))
	for range 300 {
		var l []bitRule
		for k := range 1 + random.Intn(5) {
			l = append(l, bitRule{random.Intn(5) > 0, uint(random.Intn(64)) & uint(random.Intn(64)), random.Intn(6), number(k)})
		}
		if b, err := Transpose(baseOf(l)); err == api.OK {
			checkContraposition(t, b, 6)
		}
	}
}

func TestSoundnessOfManyRuleBases(t *testing.T) {
	random := rand.New(rand.NewSource(65))
	seen := map[bool]int{}
	for range 3000 {
		var l []bitRule
		for k := range random.Intn(4) {
			l = append(l, bitRule{random.Intn(5) > 0, uint(random.Intn(64)) & uint(random.Intn(64)), random.Intn(6), number(k)})
		}
		b := baseOf(l)
		if random.Intn(4) > 0 {
			b, _ = Transpose(b)
		}
		axioms := uint(0)
		for _, i := range random.Perm(6)[:random.Intn(4)] {
			kind := 1 + random.Intn(3)
			b.Premises = append(b.Premises, api.Premise{Literal: numbered(i), Kind: kind})
			if kind == api.Axiom {
				axioms |= 1 << i
			}
		}
		want := rulebase.Validate(b) == api.OK && slowClosed(b) && consistent(leastClosed(b, axioms, 6))
		seen[want]++
		if Sound(b) != want {
			t.Fatalf("Sound of %v: %v", b, !want)
		}
	}
	if seen[true] < 300 || seen[false] < 300 {
		t.Errorf("%v", seen)
	}
}
