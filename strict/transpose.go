package strict

import (
	"slices"
	"strconv"

	"deliberation/api"
	"deliberation/literal"
	"deliberation/rulebase"
)

// Transpose: P6.2.
func Transpose(b api.Base) (api.Base, api.Errno) {
	if err := rulebase.Validate(b); err != api.OK {
		return api.Base{}, err
	}
	whole := rulebase.Promote(b, nil) // with nothing accepted, a copy
	add := func(t api.Rule) bool { return addRule(&whole, t) }
	for i := 0; i < len(whole.Rules); i++ {
		if !allTransposes(whole.Rules[i], add) {
			return api.Base{}, api.ErrLimit
		}
	}
	return whole, api.OK
}

// addRule appends a transpose to b under a new name, unless a strict rule is alike. It reports whether there is room for it.
func addRule(b *api.Base, t api.Rule) bool {
	isAlike := func(r api.Rule) bool { return r.Strict && compare(r, t) == 0 }
	if slices.ContainsFunc(b.Rules, isAlike) {
		return true
	}
	if len(b.Rules) >= api.MaxRules {
		return false
	}
	t.Name = newName(*b)
	b.Rules = append(b.Rules, t)
	return true
}

// newName returns the name of the next transpose.
func newName(b api.Base) string {
	for n := 1; ; n++ {
		name := "t" + strconv.Itoa(n)
		if rulebase.Find(b, name) < 0 {
			return name
		}
	}
}

// Closed: P6.3.
func Closed(b api.Base) bool {
	rules := slices.DeleteFunc(slices.Clone(b.Rules), func(r api.Rule) bool { return !r.Strict })
	slices.SortFunc(rules, compare)
	hasAlike := func(t api.Rule) bool {
		_, found := slices.BinarySearchFunc(rules, t, compare)
		return found
	}
	for _, r := range rules {
		if !allTransposes(r, hasAlike) {
			return false
		}
	}
	return true
}

// compare orders rules by their heads and then by their bodies. It returns 0 if they are alike.
func compare(x, y api.Rule) int {
	if c := literal.Compare(x.Head, y.Head); c != 0 {
		return c
	}
	return slices.CompareFunc(x.Body, y.Body, literal.Compare)
}

// allTransposes reports whether the test holds for all transposes of a rule, in the order of its body; a rule that is not strict has none. They are made one after another, since all those of a long body would fill the memory.
func allTransposes(r api.Rule, test func(t api.Rule) bool) bool {
	if !r.Strict {
		return true
	}
	body := literal.Normal(r.Body)
	for i, x := range body {
		others := slices.Concat(body[:i], body[i+1:], []api.Literal{literal.Complement(r.Head)})
		if !test(api.Rule{Strict: true, Body: literal.Normal(others), Head: literal.Complement(x)}) {
			return false
		}
	}
	return true
}
