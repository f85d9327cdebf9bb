package formula

import (
	"math"
	"slices"
	"strings"
	"testing"

	"deliberation/api"
)

// P2.3

func TestParse(t *testing.T) {
	for _, x := range []struct {
		text string
		want api.Formula
	}{
		{"a", a}, {"0", no}, {"1", yes}, {"abcdefghijkl", atom("abcdefghijkl")}, {"a1_", atom("a1_")}, {"  a  ", a}, {"((a))", a}, {"  ( ( a ) )  ", a},
		{"a&b -> (c)", implies(and(a, b), c)}, {"~a", not(a)}, {"~ ~a", not(not(a))}, {"~(~(a))", not(not(a))}, {"~(a)&b", and(not(a), b)},
		{"a&b&c", and(a, b, c)}, {"(a&b)&c", and(and(a, b), c)}, {"a&(b&c)", and(a, and(b, c))}, {"(a&b&c)", and(a, b, c)}, {"a & b & c & a & b & c", and(a, b, c, a, b, c)},
		{"a|b|c", or(a, b, c)}, {"(a|b)|c", or(or(a, b), c)}, {"a|(b|c)", or(a, or(b, c))}, {"a|b&c|a", or(a, and(b, c), a)}, {"(a|b)&c", and(or(a, b), c)}, {"a|b|c|a|b|c", or(a, b, c, a, b, c)},
		{"a->b->c", implies(a, implies(b, c))}, {"(a->b)->c", implies(implies(a, b), c)}, {"a->b->c->d", implies(a, implies(b, implies(c, d)))}, {"a|b->c|d", implies(or(a, b), or(c, d))},
		{"a<->b", iff(a, b)}, {"a<->b->c", iff(a, implies(b, c))}, {"a->b<->c", iff(implies(a, b), c)}, {"(a<->b)<->c", iff(iff(a, b), c)}, {"a<->(b<->c)", iff(a, iff(b, c))}, {"(a<->b)->(b<->c)<->a", iff(implies(iff(a, b), iff(b, c)), a)},
		{"~a->~b", implies(not(a), not(b))}, {"1&0", and(yes, no)}, {"~1", not(yes)}, {"~0|~~a", or(not(no), not(not(a)))},
		{strings.Repeat("~", 20) + "a", nots(20, a)}, {strings.Repeat(" ", 4095) + "a", a}, {strings.Repeat("(", 2047) + "aa" + strings.Repeat(")", 2047), atom("aa")},
	} {
		got, at, err := Parse(x.text)
		if err != api.OK || at != 0 || !Same(got, x.want) {
			t.Errorf("%q: %v, %d at %d", x.text, got, err, at)
		}
	}
}

func TestErrorsOfParse(t *testing.T) {
	for _, x := range []struct {
		text string
		at   int
	}{
		{"", 0}, {"   ", 3}, {"a &", 3}, {"a & ", 4}, {"a A", 2}, {"a b", 2}, {"a <-> b <-> c", 8}, {"(a <-> b <-> c)", 9}, {"a -> b <-> c <-> a", 13}, {"a <-> b -> c <-> a", 13}, {"(a <-> b) <-> c <-> a", 16},
		{"A", 0}, {" A", 1}, {"~", 1}, {"(", 1}, {"(a", 2}, {"((a)", 4}, {"(a))", 3}, {"a)", 1}, {")", 0}, {"()", 1}, {"& a", 0}, {"a & & b", 4}, {"a & | b", 4}, {"a ~b", 2}, {"~)", 1}, {"a -> ", 5}, {"a -> -> b", 5}, {"a | )", 4}, {"a (", 2}, {"1 0", 2},
		{"a - b", 2}, {"a <- b", 2}, {"a < b", 2}, {"a => b", 2}, {"a > b", 2}, {"a < -> b", 2}, {"a - > b", 2}, {"a <-", 2}, {"a -", 2}, {"-", 0}, {"<", 0}, {"a && b", 3}, {"a || b", 3}, {"a & <-> b", 4},
		{"a\tb", 1}, {"a\n", 1}, {"\ta", 0}, {"a\r", 1}, {"a\x00", 1}, {"a & é", 4}, {"aé", 1}, {"a\xff", 1}, {"¬a", 0}, {"a\u00a0& b", 1},
		{"01", 0}, {"00", 0}, {"10", 0}, {"1a", 0}, {"2", 0}, {"a & 1_", 4}, {"a & _b", 4}, {"_", 0}, {"a | aB", 4}, {"aB c", 0}, {"abcdefghijklm", 0}, {"a & abcdefghijklm & !", 4}, {"~1~", 2},
		{"a ! ?", 2}, {"a b !", 2}, {"a ! b", 2}, {"(a b", 3}, {"(a & (b c) !", 8},
		{"a&a&a&a&a&a&a&", 14}, {"a&a&a&a&a&a&a)", 13}, {strings.Repeat("~", 21) + "a a", 23}, {strings.Repeat("~", 4096), 4096}, {strings.Repeat("(", 4096), 4096}, {strings.Repeat(" ", 4096), 4096}, {strings.Repeat("a", 4096), 0},
	} {
		got, at, err := Parse(x.text)
		if err != api.ErrSyntax || at != x.at || !Same(got, api.Formula{}) {
			t.Errorf("%q: %d at %d, not at %d", x.text, err, at, x.at)
		}
	}
}

func TestEachByteInParse(t *testing.T) {
	for i := 0; i <= math.MaxUint8; i++ {
		s := string([]byte{byte(i)})
		_, _, err := Parse(s)
		if (err == api.OK) != (s == "0" || s == "1" || 'a' <= i && i <= 'z') {
			t.Errorf("%q: %d", s, err)
		}
		_, _, err = Parse("a" + s)
		if (err == api.OK) != (i == ' ' || i == '_' || '0' <= i && i <= '9' || 'a' <= i && i <= 'z') {
			t.Errorf("a%q: %d", s, err)
		}
		_, _, err = Parse("a" + s + "b")
		if (err == api.OK) != (i == '&' || i == '|' || i == '_' || '0' <= i && i <= '9' || 'a' <= i && i <= 'z') {
			t.Errorf("a%qb: %d", s, err)
		}
	}
}

func TestLimitsOfParse(t *testing.T) {
	for _, s := range []string{
		"a&a&a&a&a&a&a", "a|a|a|a|a|a|a", "~(a&a&a&a&a&a&a)", "1 -> (0|0|0|0|0|0|0)", strings.Repeat("a&", 2000) + "a",
		strings.Repeat("~", 21) + "a", strings.Repeat("~", 4095) + "a", strings.Repeat("a->", 21) + "a", strings.Repeat("~(", 1365) + "a" + strings.Repeat(")", 1365), text(sized(601)),
		strings.Repeat("~", 4097), strings.Repeat(" ", 4096) + "a", "!" + strings.Repeat("a ", 2048), strings.Repeat("a", 100000),
	} {
		got, at, err := Parse(s)
		if err != api.ErrLimit || at != 0 || !Same(got, api.Formula{}) {
			t.Errorf("%.40q: %d at %d", s, err, at)
		}
	}
	for _, s := range []string{strings.Repeat("a->", 20) + "a", text(sized(600)), "(a&a&a&a&a&a)&a", "a|(a|a|a|a|a|a)"} {
		if _, at, err := Parse(s); err != api.OK || at != 0 {
			t.Errorf("%.40q: %d at %d", s, err, at)
		}
	}
}

func TestTextsAreReadBack(t *testing.T) {
	for _, f := range append(someFormulas(), nots(20, a), sized(600)) {
		s, err := Format(f)
		if err != api.OK {
			t.Errorf("%v: %d", f, err)
		}
		for _, same := range []string{s, strings.ReplaceAll(s, " ", ""), "(" + s + ")", " ( " + strings.ReplaceAll(s, "~", " ~ ") + " ) "} {
			got, at, err := Parse(same)
			if err != api.OK || at != 0 || !Same(got, f) {
				t.Errorf("%q: %v, %d at %d", same, got, err, at)
			}
		}
	}
}

// read is another reader: it looks for the weakest sign outside of parentheses, and cuts there.
func read(l []string) (api.Formula, bool) {
	for _, x := range []struct {
		sign      string
		op, parts int
	}{{"<->", api.FIff, 2}, {"->", api.FImplies, 0}, {"&", api.FAnd, api.MaxArgs}, {"|", api.FOr, api.MaxArgs}} {
		if x.op == api.FAnd && slices.Contains(outside(l), "|") {
			continue
		}
		parts := cut(l, x.sign)
		if len(parts) == 1 {
			continue
		}
		if x.op == api.FImplies {
			f, ok := read(parts[0])
			g, okToo := read(l[len(parts[0])+1:])
			return implies(f, g), ok && okToo
		}
		args, ok := make([]api.Formula, len(parts)), len(parts) <= x.parts
		for i, part := range parts {
			f, good := read(part)
			args[i], ok = f, ok && good
		}
		return op(x.op, args...), ok
	}
	return readOne(l)
}

// readOne reads a list of tokens without a sign of two sides outside of parentheses.
func readOne(l []string) (api.Formula, bool) {
	switch {
	case len(l) == 0:
		return api.Formula{}, false
	case l[0] == "~":
		f, ok := readOne(l[1:])
		return not(f), ok
	case len(l) == 1:
		return map[string]api.Formula{"a": a, "1": yes}[l[0]], l[0] == "a" || l[0] == "1"
	case l[0] != "(" || l[len(l)-1] != ")" || len(outside(l)) != 2:
		return api.Formula{}, false
	}
	return read(l[1 : len(l)-1])
}

// outside returns the tokens of l outside of parentheses, with the outermost parentheses.
func outside(l []string) []string {
	var out []string
	open := 0
	for _, token := range l {
		if token == ")" {
			open--
		}
		if open <= 0 {
			out = append(out, token)
		}
		if token == "(" {
			open++
		}
	}
	return out
}

// cut returns the parts of l between the signs outside of parentheses.
func cut(l []string, sign string) [][]string {
	var parts [][]string
	open, from := 0, 0
	for i, token := range l {
		switch token {
		case "(":
			open++
		case ")":
			open--
		case sign:
			if open == 0 {
				parts = append(parts, l[from:i])
				from = i + 1
			}
		}
	}
	return append(parts, l[from:])
}

// canGoOn reports whether a continuation makes an accepted text of l: if any does, then an atom where one is missing, and the parentheses that are still open.
func canGoOn(l []string) bool {
	whole := slices.Clone(l)
	if len(l) == 0 || !slices.Contains([]string{"a", "1", ")"}, l[len(l)-1]) {
		whole = append(whole, "a")
	}
	open := 0
	for _, token := range l {
		switch token {
		case "(":
			open++
		case ")":
			open--
		}
	}
	_, ok := read(append(whole, slices.Repeat([]string{")"}, max(open, 0))...))
	return ok
}

// errorOffset is where a text of these tokens, a space before each, is wrong.
func errorOffset(l []string) int {
	at := 0
	for i, token := range l {
		if !canGoOn(l[:i+1]) {
			return at + 1
		}
		at += 1 + len(token)
	}
	return at
}

func TestAllShortListsOfTokens(t *testing.T) {
	var check func(l []string, more int)
	check = func(l []string, more int) {
		s := ""
		for _, token := range l {
			s += " " + token
		}
		want, ok := read(l)
		got, at, err := Parse(s)
		switch {
		case ok && (err != api.OK || at != 0 || !Same(got, want)):
			t.Errorf("%q: %v, %d at %d", s, got, err, at)
		case !ok && (err != api.ErrSyntax || at != errorOffset(l) || !Same(got, api.Formula{})):
			t.Errorf("%q: %d at %d instead of %d", s, err, at, errorOffset(l))
		}
		if more == 0 {
			return
		}
		for _, token := range []string{"a", "1", "~", "&", "|", "->", "<->", "(", ")"} {
			check(append(l[:len(l):len(l)], token), more-1)
		}
	}
	check(nil, 5)
	for _, first := range []string{"a <-> ( a", "( a <-> a", "a | ( a & a", "( ( a -> a )", "~ ( a & a )", "a -> a <-> a"} {
		check(strings.Fields(first), 4)
	}
}
