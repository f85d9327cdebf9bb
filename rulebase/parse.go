package rulebase

import (
	"strconv"
	"strings"

	"deliberation/api"
	"deliberation/literal"
)

// Parse: P5.2.
func Parse(s string) (api.Base, int, api.Errno) {
	if len(s) > api.MaxText {
		return api.Base{}, 0, api.ErrLimit
	}
	var b api.Base
	for n := 1; s != ""; n++ {
		line, rest, ended := strings.Cut(s, "\n")
		if !ended || !addLine(&b, line) {
			return api.Base{}, n, api.ErrSyntax
		}
		s = rest
	}
	if err := Validate(b); err != api.OK {
		return api.Base{}, 0, err
	}
	return b, 0, api.OK
}

// addLine adds to b what the line says, and reports whether it is a line that may follow those before it. The reader is lenient about signs and spaces, so the line is then compared with what it should be.
func addLine(b *api.Base, line string) bool {
	r := &reader{words: strings.Fields(line)}
	switch word := r.word(); word {
	case "strict", "rule":
		x := r.rule(word == "strict")
		b.Rules = append(b.Rules, x)
		return !r.failed && line == ruleLine(x) && len(b.Promotions) == 0
	case "promote":
		x := r.promotion()
		b.Promotions = append(b.Promotions, x)
		return !r.failed && line == promotionLine(x)
	default:
		x := r.premise(kindOf(word))
		b.Premises = append(b.Premises, x)
		return !r.failed && line == premiseLine(x) && len(b.Rules)+len(b.Promotions) == 0
	}
}

// kindOf returns the kind of the premises whose lines begin with the word, and 0 if there is none.
func kindOf(word string) int {
	for kind, w := range premiseWords {
		if w == word {
			return kind
		}
	}
	return 0
}

// reader reads the words of a line from left to right. It has failed once a word is not what it has to be.
type reader struct {
	words  []string
	failed bool
}

// word returns the next word, and the empty string behind the last one.
func (r *reader) word() string {
	if len(r.words) == 0 {
		return ""
	}
	word := r.words[0]
	r.words = r.words[1:]
	return word
}

// expect notes whether something that has to hold does.
func (r *reader) expect(holds bool) {
	r.failed = r.failed || !holds
}

// name reads a name, with the sign behind it or without.
func (r *reader) name(sign string) string {
	name := strings.TrimSuffix(r.word(), sign)
	r.expect(literal.ValidName(name))
	return name
}

// literal reads a literal, with the sign behind it or without.
func (r *reader) literal(sign string) api.Literal {
	x, err := literal.Parse(strings.TrimSuffix(r.word(), sign))
	r.expect(err == api.OK)
	return x
}

// rank reads a rank, with the sign behind it or without.
func (r *reader) rank(sign string) int {
	rank, err := strconv.Atoi(strings.TrimSuffix(r.word(), sign))
	r.expect(err == nil && rankFits(rank, true))
	return rank
}

// premise reads the rest of the line of a premise.
func (r *reader) premise(kind int) api.Premise {
	r.expect(kind != 0)
	p := api.Premise{Kind: kind, Literal: r.literal("")}
	if kind == api.Ordinary {
		p.Rank = r.rank("")
	}
	if len(r.words) > 0 {
		r.word() // from
		p.Source = r.name("")
	}
	return p
}

// rule reads the rest of the line of a rule.
func (r *reader) rule(strict bool) api.Rule {
	x := api.Rule{Name: r.name(":"), Strict: strict}
	if !strict {
		x.Rank = r.rank(":")
	}
	for len(r.words) > 2 {
		x.Body = append(x.Body, r.literal(","))
	}
	r.word() // the arrow
	x.Head = r.literal("")
	return x
}

// promotion reads the rest of the line of a promotion.
func (r *reader) promotion() api.Promotion {
	p := api.Promotion{Rule: r.name("")}
	p.Rank = r.rank("")
	r.word() // if
	p.If = r.literal("")
	return p
}
