package rulebase

import (
	"strconv"
	"strings"

	"deliberation/api"
	"deliberation/literal"
)

// premiseWords are the words with which the lines of premises begin, by kind.
var premiseWords = [...]string{api.Axiom: "axiom", api.Ordinary: "premise", api.Assumption: "assume"}

// Format: P5.2.
func Format(b api.Base) (string, api.Errno) {
	if err := Validate(b); err != api.OK {
		return "", err
	}
	s := text(b)
	if len(s) > api.MaxText {
		return "", api.ErrLimit
	}
	return s, api.OK
}

// text returns the text of a valid rule base.
func text(b api.Base) string {
	var s strings.Builder
	for _, p := range b.Premises {
		s.WriteString(premiseLine(p) + "\n")
	}
	for _, r := range b.Rules {
		s.WriteString(ruleLine(r) + "\n")
	}
	for _, p := range b.Promotions {
		s.WriteString(promotionLine(p) + "\n")
	}
	return s.String()
}

// premiseLine returns the line of a premise whose kind is valid.
func premiseLine(p api.Premise) string {
	line := premiseWords[p.Kind] + " " + literal.Format(p.Literal)
	if p.Kind == api.Ordinary {
		line += " " + strconv.Itoa(p.Rank)
	}
	if p.Source != "" {
		line += " from " + p.Source
	}
	return line
}

func ruleLine(r api.Rule) string {
	start, arrow := "rule "+r.Name+" "+strconv.Itoa(r.Rank), "=>"
	if r.Strict {
		start, arrow = "strict "+r.Name, "->"
	}
	return start + ": " + bodyText(r.Body) + arrow + " " + literal.Format(r.Head)
}

// bodyText returns the text of a body with the space behind it, if there is one.
func bodyText(body []api.Literal) string {
	if len(body) == 0 {
		return ""
	}
	texts := make([]string, len(body))
	for i, x := range body {
		texts[i] = literal.Format(x)
	}
	return strings.Join(texts, ", ") + " "
}

func promotionLine(p api.Promotion) string {
	return "promote " + p.Rule + " " + strconv.Itoa(p.Rank) + " if " + literal.Format(p.If)
}
