package rulebase

import (
	"regexp"
	"strconv"
	"strings"
	"testing"

	"deliberation/api"
)

// P5.2, Parse

func TestParse(t *testing.T) {
	for _, x := range texts {
		b, n, err := Parse(x.text)
		if err != api.OK || n != 0 || !equal(b, x.base) {
			t.Errorf("%q: %v, %d at %d", x.text, b, err, n)
		}
	}
}

func TestTheLargestIsReadBack(t *testing.T) {
	s, _ := Format(full())
	if b, n, err := Parse(s); err != api.OK || n != 0 || !equal(b, full()) {
		t.Errorf("%d at %d", err, n)
	}
}

// goodLines are lines of each kind, and badLines are none.
var goodLines = []string{
	"axiom p", "axiom ~p from a", "premise p 0", "premise ~p 9 from b", "assume p", "assume ~abcdefghijkl from abcdefghijkl",
	"strict s: -> p", "strict s: p -> q", "strict s: a, ~a, b, ~c -> ~q", "rule d 0: => p", "rule d 9: ~p => ~p", "rule abcdefghijkl 5: a, b, c, d => e",
}

var badLines = []string{
	"", " ", "\t", "\r", "x", "p", "hello world", "# axiom p", "Axiom p", "AXIOM p", "axioms p", "axio p", "axiom: p", "~axiom p", ":", "->", "=>", ",", "from", "if",
	"axiom", "axiom ", "axiom  p", " axiom p", "axiom p ", "axiom p\r", "axiom\tp", "axiom p\t", "axiom\u00a0p", "axiom p\u0085", "axiom\vp", "axiom p\x00", "axiom\xffp",
	"axiom P", "axiom ~P", "axiom ~~p", "axiom ~", "axiom ~ p", "axiom 1", "axiom _p", "axiom p,", "axiom p.", "axiom p q", "axiom p, q", "axiom abcdefghijklm", "axiom p 0", "axiom p 3 from a",
	"axiom p from", "axiom p from ", "axiom p from  a", "axiom p  from a", "axiom p from A", "axiom p from ~a", "axiom p from a b", "axiom p from a from b", "axiom p of a", "axiom p From a", "axiom p from 1", "axiom p a", "axiom from a", "axiom p from abcdefghijklm", "axiom p from:",
	"premise", "premise p", "premise 3", "premise 3 p", "premise p 10", "premise p 03", "premise p -1", "premise p +1", "premise p a", "premise p ٣", "premise p 3 4", "premise p 3 a", "premise p 3:", "premise p 3 from", "premise p 3 from A", "premise p from a", "premise p from 3", "premise P 3", "premise p  3", "premise p 3 ", "premise p 3 from a b", "premise p 3 of a",
	"assume", "assume P", "assume p 3", "assume p 0", "assume p 3 from a", "assume p from", "assume p, q",
	"strict", "strict s", "strict s:", "strict s: p", "strict s: ->", "strict s: -> ", "strict s:  -> p", "strict s: ->  p", "strict s:-> p", "strict s :-> p", "strict s : -> p", "strict s -> p", "strict s:: -> p", "strict : -> p", "strict -> p", "strict s: => p", "strict s: - > p", "strict s: p => q", "strict s: --> p", "strict s: > p", "strict s: p q",
	"strict s 0: -> p", "strict s: 0 -> p", "strict S: -> p", "strict ~s: -> p", "strict 1: -> p", "strict abcdefghijklm: -> p", "strict s: -> P", "strict s: -> ~~p", "strict s: -> p,", "strict s: -> p, q", "strict s: -> p -> q", "strict s: p -> q -> r", "strict s: -> -> p", "strict s: -> p from a", "strict s: -> p ",
	"strict s: p, -> q", "strict s: , -> q", "strict s: ,p -> q", "strict s: p,, q -> r", "strict s: p , q -> r", "strict s: p,q -> r", "strict s: p q -> r", "strict s: p,  q -> r", "strict s: P -> q", "strict s: p, Q -> r", "strict s: p, ~~q -> r", "strict s: p,q, r -> t", "strict s: p; q -> r", "strict s: p & q -> r",
	"rule", "rule d", "rule d 1", "rule d 1:", "rule d 1: p", "rule d 1: =>", "rule d 1: => ", "rule d 1:  => p", "rule d 1: =>  p", "rule d 1:=> p", "rule d 1 : => p", "rule d 1 => p", "rule d 1:: => p", "rule d: 1: => p", "rule d: 1 => p", "rule d:1: => p", "rule d: => p", "rule d:  => p", "rule 1: => p", "rule 1 d: => p",
	"rule d 1: -> p", "rule d 1: p -> q", "rule d 12: => p", "rule d 01: => p", "rule d -1: => p", "rule d a: => p", "rule d 1 2: => p", "rule d /: => p", "rule d ;: => p", "rule D 1: => p", "rule ~d 1: => p", "rule d, 1: => p", "rule d 1: => P", "rule d 1: => p q", "rule d 1: => p => q", "rule d 1: p q => r", "rule d 1: p, => r", "rule d 1: ,p => r", "rule d 1: p , q => r", "rule d 1: p,q => r", "rule d 1: p, q, => r", "rule d 1: => p from a", "rule  d 1: => p", "rule d  1: => p", " rule d 1: => p", "rule d 1: => p ",
	"promote", "promote d", "promote d 1", "promote d 1 if", "promote d 1 if ", "promote d 1 p", "promote d if p", "promote 1 if p", "promote d 1 If p", "promote d 1 of p", "promote d 1: if p", "promote d: 1 if p", "promote d 10 if p", "promote d 01 if p", "promote d -1 if p", "promote d a if p", "promote D 1 if p", "promote ~d 1 if p", "promote d 1 if P", "promote d 1 if ~~p", "promote d 1 if p q", "promote d 1 if p, q", "promote d 1 if p if q", "promote d 1 if p ", "promote  d 1 if p", "promote d 1  if p", "promote abcdefghijklm 1 if p", " promote d 1 if p",
}

// isSyntaxError reports whether Parse finds the first error of the syntax at the line n.
func isSyntaxError(t *testing.T, s string, n int) {
	t.Helper()
	b, got, err := Parse(s)
	if err != api.ErrSyntax || got != n || !equal(b, api.Base{}) {
		t.Errorf("%q: %v, %d at %d, not at %d", s, b, err, got, n)
	}
}

func TestErrorsOfParse(t *testing.T) {
	for _, line := range badLines {
		if lineForm(line) != 0 {
			t.Fatalf("%q is a line", line)
		}
		isSyntaxError(t, line+"\n", 1)
		isSyntaxError(t, line+"\naxiom p\n", 1)
		isSyntaxError(t, "axiom p\n"+line+"\n", 2)
		isSyntaxError(t, "axiom p\naxiom p\nstrict s: q, p -> r\n"+line+"\nx\n", 4)
		if line != "" {
			isSyntaxError(t, line, 1)
		}
	}
	for _, line := range goodLines {
		if lineForm(line) == 0 {
			t.Fatalf("%q is no line", line)
		}
		if _, n, err := Parse(line + "\n"); n != 0 || err != api.OK {
			t.Errorf("%q: %d at %d", line, err, n)
		}
		isSyntaxError(t, line, 1)
		isSyntaxError(t, line+"\n\n", 2)
		isSyntaxError(t, "\n"+line+"\n", 1)
		isSyntaxError(t, "axiom z\n"+line, 2)
	}
}

func TestOrderOfLines(t *testing.T) {
	for s, n := range map[string]int{
		"rule d 1: => p\naxiom p\n":                                         2,
		"strict s: -> p\npremise p 1\n":                                     2,
		"rule d 1: => p\npromote d 2 if p\nassume p\n":                      3,
		"rule d 1: => p\npromote d 2 if p\nrule e 1: => p\n":                3,
		"rule d 1: => p\npromote d 2 if p\nstrict s: -> p\n":                3,
		"promote d 2 if p\naxiom p\n":                                       2,
		"promote d 2 if p\nrule d 1: => p\n":                                2,
		"axiom p\naxiom p\nrule d 1: => p\nrule d 1: => p\naxiom p\nx\n":    5,
		"axiom p\npromote d 1 if p\npromote d 1 if p\nrule d 1: => p\n\n\n": 4,
	} {
		isSyntaxError(t, s, n)
	}
	for _, s := range []string{
		"axiom p\nrule d 1: => p\npromote d 2 if p\n",
		"premise p 0\nassume q\naxiom r\n",
		"rule d 1: => p\nstrict s: -> p\nrule e 1: => q\n",
		"axiom p\nrule d 1: => p\n",
	} {
		if _, n, err := Parse(s); n != 0 || err != api.OK {
			t.Errorf("%q: %d at %d", s, err, n)
		}
	}
}

func TestParseValidates(t *testing.T) {
	for _, x := range []struct {
		text string
		err  api.Errno
	}{
		{"strict s: q, p -> r\n", api.ErrOrder}, {"strict s: p, p -> r\n", api.ErrOrder}, {"rule d 1: ~p, p => r\n", api.ErrOrder},
		{"strict s: a, b, c, d, e -> r\n", api.ErrLimit}, {"rule d 0: e, d, c, b, a => r\n", api.ErrLimit}, {"rule d 0: " + strings.Repeat("a, ", 1000) + "a => r\n", api.ErrLimit},
		{"axiom p\nassume p\n", api.ErrDuplicate}, {"premise ~p 1\nassume q\npremise ~p 2\n", api.ErrDuplicate}, {"strict s: -> p\nrule s 1: => q\n", api.ErrDuplicate},
		{"promote d 1 if p\n", api.ErrMissing}, {"axiom d\nrule e 1: => d\npromote d 1 if p\n", api.ErrMissing}, {"strict s: -> p\npromote s 1 if p\n", api.ErrKind},
		{strings.Repeat("axiom p\n", 17), api.ErrLimit}, {strings.Repeat("rule d 0: => p\n", 25), api.ErrLimit}, {"rule d 0: => p\n" + strings.Repeat("promote d 0 if p\n", 9), api.ErrLimit},
		{strings.Repeat("axiom p\n", 16), api.ErrDuplicate}, {strings.Repeat("rule d 0: => p\n", 24), api.ErrDuplicate}, {"rule d 0: => p\n" + strings.Repeat("promote d 0 if p\n", 8), api.OK},
		{"rule d 0: q, p => r\n" + strings.Repeat("promote d 0 if p\n", 9), api.ErrLimit}, {"axiom p\naxiom p\nstrict s: q, p -> r\n", api.ErrDuplicate},
	} {
		b, n, err := Parse(x.text)
		if err != x.err || n != 0 || err != api.OK && !equal(b, api.Base{}) {
			t.Errorf("%.60q: %v, %d at %d, not %d", x.text, b, err, n, x.err)
		}
	}
}

func TestLimitOfParse(t *testing.T) {
	full := strings.Repeat("axiom p\n", api.MaxText/8)
	last := api.MaxText / 8
	for _, x := range []struct {
		text string
		n    int
		err  api.Errno
	}{
		{full, 0, api.ErrLimit}, // the error of Validate: MaxText bytes are not too many
		{full[:api.MaxText-8] + "axiom P\n", last, api.ErrSyntax},
		{full[:api.MaxText-1], last, api.ErrSyntax},
		{full[:api.MaxText-1] + " ", last, api.ErrSyntax},
		{full + "x", 0, api.ErrLimit},
		{full + "\n", 0, api.ErrLimit},
		{strings.Repeat("x", api.MaxText), 1, api.ErrSyntax},
		{strings.Repeat("x", api.MaxText+1), 0, api.ErrLimit},
		{strings.Repeat("\n", api.MaxText), 1, api.ErrSyntax},
		{strings.Repeat("\n", api.MaxText+1), 0, api.ErrLimit},
		{strings.Repeat("\xff", 1000000), 0, api.ErrLimit},
		{sampleText + strings.Repeat("x", api.MaxText-len(sampleText)), 12, api.ErrSyntax},
		{sampleText + strings.Repeat("x", api.MaxText-len(sampleText)+1), 0, api.ErrLimit},
	} {
		b, n, err := Parse(x.text)
		if err != x.err || n != x.n || !equal(b, api.Base{}) {
			t.Errorf("%.20q, %d bytes: %d at %d, not %d at %d", x.text, len(x.text), err, n, x.err, x.n)
		}
	}
}

// The forms of lines, as expressions.
const (
	nameForm    = `[a-z][a-z0-9_]{0,11}`
	literalForm = `~?` + nameForm
	fromForm    = `( from ` + nameForm + `)?`
	bodyForm    = `(` + literalForm + `(, ` + literalForm + `)* )?`
)

var (
	premiseForm   = regexp.MustCompile(`\A((axiom|assume) ` + literalForm + `|premise ` + literalForm + ` [0-9])` + fromForm + `\z`)
	ruleForm      = regexp.MustCompile(`\A(strict ` + nameForm + `: ` + bodyForm + `->|rule ` + nameForm + ` [0-9]: ` + bodyForm + `=>) ` + literalForm + `\z`)
	promotionForm = regexp.MustCompile(`\Apromote ` + nameForm + ` [0-9] if ` + literalForm + `\z`)
)

// lineForm returns 1 for the line of a premise, 2 for that of a rule, 3 for that of a promotion, and 0 for others.
func lineForm(line string) int {
	switch {
	case premiseForm.MatchString(line):
		return 1
	case ruleForm.MatchString(line):
		return 2
	case promotionForm.MatchString(line):
		return 3
	}
	return 0
}

// syntaxError returns the first line at which s is no text, and 0 if there is none.
func syntaxError(s string) int {
	lines := strings.SplitAfter(s, "\n")
	reached := 1
	for i, line := range lines {
		if line == "" && i == len(lines)-1 {
			break
		}
		line, ended := strings.CutSuffix(line, "\n")
		form := lineForm(line)
		if !ended || form < reached {
			return i + 1
		}
		reached = form
	}
	return 0
}

// checkText compares what Parse says of s with the expressions, and reads back what it accepts.
func checkText(t *testing.T, s string) {
	t.Helper()
	b, n, err := Parse(s)
	if want := syntaxError(s); n != want || (want > 0) != (err == api.ErrSyntax) {
		t.Errorf("%q: %d at %d, not at %d", s, err, n, want)
	}
	if err != api.OK {
		if !equal(b, api.Base{}) {
			t.Errorf("%q: %v beside an error", s, b)
		}
		return
	}
	if back, err := Format(b); err != api.OK || back != s {
		t.Errorf("%q: the text is %q, %d", s, back, err)
	}
}

func TestEachChangeOfOneByte(t *testing.T) {
	const signs = " \n\t\r~:,-=>_azA019f\x00\x7f\x85\xa0\xff"
	for _, s := range append([]string{sampleText, exampleText, "axiom from from from\n"}, goodLines...) {
		for i := range len(s) + 1 {
			for k := range len(signs) {
				checkText(t, s[:i]+signs[k:k+1]+s[i:])
				if i < len(s) {
					checkText(t, s[:i]+signs[k:k+1]+s[i+1:])
				}
			}
			checkText(t, s[:i])
			checkText(t, s[i:])
			if i < len(s) {
				checkText(t, s[:i]+s[i+1:])
			}
			if i+1 < len(s) {
				checkText(t, s[:i]+s[i+1:i+2]+s[i:i+1]+s[i+2:])
			}
		}
	}
}

func TestEveryPairOfLines(t *testing.T) {
	lines := strings.SplitAfter(sampleText, "\n")
	lines = append(lines, "strict z: b, a -> c\n", "promote zz 1 if p\n", "axiom zz", "rule zz 1: -> p\n")
	for _, first := range lines {
		for _, second := range lines {
			checkText(t, first+second)
			for _, third := range lines {
				checkText(t, first+second+third)
			}
		}
	}
}

func TestEverySequenceOfWords(t *testing.T) {
	words := []string{"axiom", "premise", "strict", "rule", "promote", "p", "p:", "3", "3:", "p,", "->", "=>", "if", "from", "~q"}
	var extend func(line string, n int)
	extend = func(line string, n int) {
		checkText(t, line+"\n")
		if n == 0 {
			return
		}
		for _, w := range words {
			extend(line+" "+w, n-1)
		}
	}
	for _, w := range words {
		extend(w, 3)
	}
	for _, start := range []string{"rule p 3:", "rule p 3: p, ~q", "strict p:", "strict p: ~q", "premise p 3 from", "promote p 3"} {
		extend(start, 3)
	}
}

// digits generates small rule bases: each digit of a number decides something.
type digits struct{ left int }

func (d *digits) below(n int) int {
	k := d.left % n
	d.left /= n
	return k
}

func (d *digits) literal() api.Literal {
	return api.Literal{Neg: d.below(2) == 1, Name: []string{"p", "rule", "x_1"}[d.below(3)]}
}

func (d *digits) base() api.Base {
	var b api.Base
	for range d.below(3) {
		b.Premises = append(b.Premises, api.Premise{Literal: d.literal(), Kind: 1 + d.below(3), Rank: d.below(2), Source: []string{"", "p"}[d.below(2)]})
	}
	for i := range d.below(3) {
		r := api.Rule{Name: "r" + strconv.Itoa(i), Strict: d.below(2) == 1, Rank: d.below(2), Head: d.literal()}
		for range d.below(3) {
			r.Body = append(r.Body, d.literal())
		}
		b.Rules = append(b.Rules, r)
	}
	for range d.below(2) {
		b.Promotions = append(b.Promotions, api.Promotion{Rule: "r" + strconv.Itoa(d.below(2)), Rank: d.below(3), If: d.literal()})
	}
	return b
}

func TestTextsAndValidRuleBasesCorrespond(t *testing.T) {
	found := map[string]api.Base{}
	valid := 0
	for k := range 60000 {
		d := &digits{left: k * 1000003 * 7919}
		b := d.base()
		s, err := Format(b)
		if err != Validate(b) {
			t.Fatalf("%v: %d", b, err)
		}
		if err != api.OK {
			continue
		}
		valid++
		back, n, err := Parse(s)
		if err != api.OK || n != 0 || !equal(back, b) {
			t.Fatalf("%q: %v, %d at %d", s, back, err, n)
		}
		if other, ok := found[s]; ok && !equal(other, b) {
			t.Fatalf("%q is the text of %v and %v", s, other, b)
		}
		found[s] = b
	}
	if valid < 1000 || len(found) < 500 {
		t.Errorf("only %d valid rule bases, %d texts", valid, len(found))
	}
}
