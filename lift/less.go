package lift

import "deliberation/api"

// strength is what the links compare of an argument.
type strength struct{ premises, rules, last []int }

// setOrder reports whether the first one of two sets of ranks is less.
type setOrder func(a, b []int) bool

// Less: P8.3.
func Less(b api.Base, l []api.Argument, i, k int, o api.Ordering) bool {
	if !isIndex(i, len(l)) || !isIndex(k, len(l)) || Assumes(b, l, k) {
		return false
	}
	var link func(x, y strength, less setOrder) bool
	switch o.Link {
	case api.LastLink:
		link = lastLink
	case api.WeakestLink:
		link = weakestLink
	default:
		return false
	}
	less := func(x, y []int) bool { return SetLess(x, y, o.Lift) }
	return link(strengthOf(b, l, i), strengthOf(b, l, k), less)
}

func strengthOf(b api.Base, l []api.Argument, i int) strength {
	return strength{PremiseRanks(b, l, i), RuleRanks(b, l, i), LastRanks(b, l, i)}
}

func lastLink(x, y strength, less setOrder) bool {
	if bothEmpty(x.last, y.last) {
		return less(x.premises, y.premises)
	}
	return less(x.last, y.last)
}

func weakestLink(x, y strength, less setOrder) bool {
	switch {
	case bothEmpty(x.rules, y.rules):
		return less(x.premises, y.premises)
	case bothEmpty(x.premises, y.premises):
		return less(x.rules, y.rules)
	}
	return less(x.premises, y.premises) && less(x.rules, y.rules)
}

func bothEmpty(a, b []int) bool { return len(a) == 0 && len(b) == 0 }
