package world

import "deliberation/api"

// Theory: P3.3.
func Theory(voc []string, set uint64) (api.Formula, api.Errno) {
	if !Valid(voc) {
		return api.Formula{}, api.ErrRange
	}
	return theory(voc, set&all(len(voc))), api.OK
}

// theory returns the theory of a set of worlds of voc.
func theory(voc []string, set uint64) api.Formula {
	switch set {
	case 0:
		return api.Formula{Op: api.FFalse}
	case all(len(voc)):
		return api.Formula{Op: api.FTrue}
	}
	rest := voc[1:]
	yes, no := split(set)
	// The theories are equal exactly if the sets are.
	if yes == no {
		return theory(rest, yes)
	}
	return choice(voc[0], theory(rest, yes), theory(rest, no))
}

// split returns the worlds in which the first atom is true, and those in which it is false, both without its bit.
func split(set uint64) (yes, no uint64) {
	for w := range 1 << (api.MaxAtoms - 1) {
		yes |= set >> (2*w + 1) & 1 << w
		no |= set >> (2 * w) & 1 << w
	}
	return yes, no
}

// choice returns the formula that says yes where the atom is true, and no where it is false. They are not equal.
func choice(name string, yes, no api.Formula) api.Formula {
	atom := api.Formula{Op: api.FAtom, Name: name}
	not := formulaOf(api.FNot, atom)
	switch {
	case yes.Op == api.FTrue && no.Op == api.FFalse:
		return atom
	case yes.Op == api.FTrue:
		return formulaOf(api.FOr, atom, no)
	case yes.Op == api.FFalse && no.Op == api.FTrue:
		return not
	case yes.Op == api.FFalse:
		return formulaOf(api.FAnd, not, no)
	case no.Op == api.FTrue:
		return formulaOf(api.FOr, not, yes)
	case no.Op == api.FFalse:
		return formulaOf(api.FAnd, atom, yes)
	}
	return formulaOf(api.FOr, formulaOf(api.FAnd, atom, yes), formulaOf(api.FAnd, not, no))
}

func formulaOf(op int, args ...api.Formula) api.Formula {
	return api.Formula{Op: op, Args: args}
}
