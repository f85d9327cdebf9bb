package formula

import (
	"strings"

	"deliberation/api"
	"deliberation/literal"
)

// signs are the tokens that are no words.
var signs = [...]string{"<->", "->", "~", "&", "|", "(", ")"}

// Parse: P2.3.
func Parse(s string) (api.Formula, int, api.Errno) {
	if len(s) > api.MaxText {
		return api.Formula{}, 0, api.ErrLimit
	}
	p := &parser{text: s}
	p.next()
	f, ok := p.equivalence()
	if !ok || p.at < len(s) {
		return api.Formula{}, p.at, api.ErrSyntax
	}
	// What the parser builds can only be too large, too deep or too wide.
	if Validate(f) != api.OK {
		return api.Formula{}, 0, api.ErrLimit
	}
	return f, 0, api.OK
}

// parser reads a text from left to right. Each of its reading methods begins at the current token and ends at the first one that it does not use; it returns false if no formula can go on with the current token, and this is then where the error is.
type parser struct {
	text  string
	at    int    // where the current token begins
	token string // empty at the end of the text, and where no token begins
}

// next goes on to the next token.
func (p *parser) next() {
	p.at += len(p.token)
	for p.at < len(p.text) && p.text[p.at] == ' ' {
		p.at++
	}
	p.token = firstToken(p.text[p.at:])
}

// firstToken returns the token with which s begins, or the empty string.
func firstToken(s string) string {
	for _, sign := range signs {
		if strings.HasPrefix(s, sign) {
			return sign
		}
	}
	n := 0
	for n < len(s) && inWord(s[n]) {
		n++
	}
	word := s[:n]
	if word == "0" || word == "1" || literal.ValidName(word) {
		return word
	}
	return ""
}

// inWord reports whether c belongs to a word, also to one that is not a name.
func inWord(c byte) bool {
	return 'a' <= c && c <= 'z' || 'A' <= c && c <= 'Z' || '0' <= c && c <= '9' || c == '_'
}

func (p *parser) equivalence() (api.Formula, bool) {
	return p.pair(api.FIff, "<->", p.implication, p.implication)
}

func (p *parser) implication() (api.Formula, bool) {
	return p.pair(api.FImplies, "->", p.disjunction, p.implication)
}

func (p *parser) disjunction() (api.Formula, bool) {
	return p.row(api.FOr, "|", p.conjunction)
}

func (p *parser) conjunction() (api.Formula, bool) {
	return p.row(api.FAnd, "&", p.negation)
}

// pair reads a left part and, if the sign follows, a right part.
func (p *parser) pair(op int, sign string, left, right func() (api.Formula, bool)) (api.Formula, bool) {
	f, ok := left()
	if !ok || p.token != sign {
		return f, ok
	}
	p.next()
	g, ok := right()
	return api.Formula{Op: op, Args: []api.Formula{f, g}}, ok
}

// row reads one or more parts with the sign between them.
func (p *parser) row(op int, sign string, part func() (api.Formula, bool)) (api.Formula, bool) {
	first, ok := part()
	if !ok || p.token != sign {
		return first, ok
	}
	args := []api.Formula{first}
	for ok && p.token == sign {
		p.next()
		var f api.Formula
		f, ok = part()
		args = append(args, f)
	}
	return api.Formula{Op: op, Args: args}, ok
}

func (p *parser) negation() (api.Formula, bool) {
	if p.token != "~" {
		return p.primary()
	}
	p.next()
	f, ok := p.negation()
	return api.Formula{Op: api.FNot, Args: []api.Formula{f}}, ok
}

// primary reads a constant, an atom, or a formula in parentheses.
func (p *parser) primary() (api.Formula, bool) {
	var f api.Formula
	switch {
	case p.token == "(":
		return p.group()
	case p.token == "0":
		f.Op = api.FFalse
	case p.token == "1":
		f.Op = api.FTrue
	case literal.ValidName(p.token):
		f.Op, f.Name = api.FAtom, p.token
	default:
		return f, false
	}
	p.next()
	return f, true
}

// group reads a formula in parentheses.
func (p *parser) group() (api.Formula, bool) {
	p.next()
	f, ok := p.equivalence()
	if !ok || p.token != ")" {
		return f, false
	}
	p.next()
	return f, true
}
