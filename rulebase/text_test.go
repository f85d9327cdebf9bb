package rulebase

import (
	"testing"

	"deliberation/api"
)

// sampleText is the text of the sample.
const sampleText = "axiom p\n" +
	"premise ~p 3 from ann\n" +
	"assume q from bob_2\n" +
	"premise u 0\n" +
	"strict s1: a, b, c -> r\n" +
	"rule d1 2: b, c, ~c => ~t\n" +
	"strict s2: -> ~d1\n" +
	"rule p 9: => p\n" +
	"promote d1 5 if q\n" +
	"promote p 0 if ~d1\n" +
	"promote d1 1 if ~q\n"

// exampleText is the first example of the chapter.
const exampleText = "axiom p\npremise q 3 from ann\nstrict s1: p, q -> r\nrule d1 2: r => ~t\npromote d1 5 if q\n"

func example() api.Base {
	return api.Base{
		Premises:   []api.Premise{axiom(pos("p")), {Literal: pos("q"), Kind: api.Ordinary, Rank: 3, Source: "ann"}},
		Rules:      []api.Rule{{Name: "s1", Strict: true, Body: list(pos("p"), pos("q")), Head: pos("r")}, {Name: "d1", Rank: 2, Body: list(pos("r")), Head: neg("t")}},
		Promotions: []api.Promotion{{Rule: "d1", Rank: 5, If: pos("q")}},
	}
}

// texts are rule bases and their texts.
var texts = []struct {
	base api.Base
	text string
}{
	{api.Base{}, ""},
	{sample(), sampleText},
	{example(), exampleText},
	{premises(axiom(neg("p"))), "axiom ~p\n"},
	{premises(api.Premise{Literal: pos("from"), Kind: api.Axiom, Source: "from"}), "axiom from from from\n"},
	{premises(api.Premise{Literal: neg("axiom"), Kind: api.Assumption}), "assume ~axiom\n"},
	{premises(ordinary(neg("premise"), 9)), "premise ~premise 9\n"},
	{premises(api.Premise{Literal: pos("p"), Kind: api.Ordinary, Source: "p"}), "premise p 0 from p\n"},
	{premises(axiom(pos("z")), axiom(pos("a"))), "axiom z\naxiom a\n"},
	{rules(api.Rule{Name: "rule", Head: pos("strict")}), "rule rule 0: => strict\n"},
	{rules(api.Rule{Name: "strict", Strict: true, Head: neg("strict")}), "strict strict: -> ~strict\n"},
	{rules(api.Rule{Name: "d", Rank: 7, Body: list(neg("p")), Head: neg("p")}), "rule d 7: ~p => ~p\n"},
	{rules(api.Rule{Name: "s", Strict: true, Body: list(pos("p"), neg("p"), pos("q"), neg("q")), Head: pos("p")}), "strict s: p, ~p, q, ~q -> p\n"},
	{rules(api.Rule{Name: "z", Head: pos("p")}, api.Rule{Name: "a", Strict: true, Head: pos("p")}), "rule z 0: => p\nstrict a: -> p\n"},
}

// P5.2, Format

func TestFormat(t *testing.T) {
	for _, x := range texts {
		if s, err := Format(x.base); err != api.OK || s != x.text {
			t.Errorf("%q: %q, %d", x.text, s, err)
		}
	}
}

// No valid rule base has a text of more than MaxText bytes, so ErrLimit of Format is always that of Validate.
func TestLongestText(t *testing.T) {
	s, err := Format(full())
	if err != api.OK || len(s) != 16*len("premise ~abcdefghijaa 0 from abcdefghijaa\n")+24*len("rule abcdefghijaa 0: ~abcdefghijaa, ~abcdefghijaa, ~abcdefghijaa, ~abcdefghijaa => ~abcdefghijaa\n")+8*len("promote abcdefghijaa 0 if ~abcdefghijaa\n") {
		t.Errorf("%d bytes, %d", len(s), err)
	}
	if len(s) > api.MaxText {
		t.Errorf("%d bytes are too many", len(s))
	}
}

func TestErrorsOfFormat(t *testing.T) {
	for _, x := range faults() {
		if s, err := Format(changed(x.change)); err != x.err || s != "" {
			t.Errorf("%q, %d instead of %d", s, err, x.err)
		}
	}
}
