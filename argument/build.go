package argument

import (
	"iter"
	"slices"

	"deliberation/api"
	"deliberation/literal"
	"deliberation/rulebase"
)

// construction is a list of arguments that grows from round to round.
type construction struct {
	base api.Base
	list []api.Argument
	used [][]int         // the defeasible rules of each argument
	runs [][]api.Literal // the run of each argument
}

// Build: P7.1.
func Build(b api.Base) ([]api.Argument, api.Errno) {
	if err := rulebase.Validate(b); err != api.OK {
		return nil, err
	}
	c := construction{base: b}
	for i, p := range b.Premises {
		c.add(api.Argument{Premise: i, Rule: -1, Conclusion: p.Literal})
	}
	before := 0 // where the round before begins
	for k := 1; ; k++ {
		begin := len(c.list)
		if !c.round(k, before) {
			return nil, api.ErrLimit
		}
		if len(c.list) == begin {
			return c.list, api.OK
		}
		before = begin
	}
}

// add appends an argument, with what later applications ask about it.
func (c *construction) add(a api.Argument) {
	i := len(c.list)
	c.list = append(c.list, a)
	c.used = append(c.used, Defeasible(c.base, c.list, i))
	c.runs = append(c.runs, Conclusions(c.list, runOf(c.base, c.list, i)))
}

// round appends the applications of the round k. The arguments of the round before it begin at the index before. It reports whether there is room for all of them.
func (c *construction) round(k, before int) bool {
	fits := true
	isNew := func(i int) bool { return i >= before }
	earlier := c.list
rules:
	for i, r := range c.base.Rules {
		withoutBody := k == 1 && len(r.Body) == 0
		for subs := range choices(earlier, r.Body) {
			if !withoutBody && !slices.ContainsFunc(subs, isNew) || !c.withinCut(i, subs) {
				continue
			}
			if len(c.list) == api.MaxArguments {
				fits = false
				break rules
			}
			c.add(api.Argument{Premise: -1, Rule: i, Subs: slices.Clone(subs), Conclusion: r.Head})
		}
	}
	return fits
}

// choices returns the choices of arguments of l for the literals of a body, in lexicographic order. A choice is to be copied before the next one is asked for.
func choices(l []api.Argument, body []api.Literal) iter.Seq[[]int] {
	return func(yield func([]int) bool) { choose(l, body, nil, yield) }
}

// choose adds to the accumulated subs each choice for the rest of a body. It reports whether more choices are wanted.
func choose(l []api.Argument, rest []api.Literal, subs []int, yield func([]int) bool) bool {
	if len(rest) == 0 {
		return yield(subs)
	}
	for i, a := range l {
		if a.Conclusion == rest[0] && !choose(l, rest[1:], append(subs, i), yield) {
			return false
		}
	}
	return true
}

// withinCut reports whether the application of a rule to subarguments is within the cut.
func (c *construction) withinCut(rule int, subs []int) bool {
	r := c.base.Rules[rule]
	isCut := func(s int) bool {
		if r.Strict {
			return literal.Has(c.runs[s], r.Head)
		}
		return slices.Contains(c.used[s], rule)
	}
	return !slices.ContainsFunc(subs, isCut)
}
