package admissible

import (
	"math/bits"

	"deliberation/api"
)

// attacks is a valid graph with its sets of nodes as bits; MaxNodes of them fit in a word.
type attacks struct {
	nodes uint64
	by    [api.MaxNodes]uint64 // for each node, those that it attacks
}

// read returns the attacks of a graph and a set of its nodes as bits, and false if the list is no set.
func read(g api.Graph, set []int) (a attacks, s uint64, ok bool) {
	if !Valid(g, set) {
		return attacks{}, 0, false
	}
	a.nodes = 1<<g.N - 1
	for _, p := range g.L {
		a.by[p.From] |= 1 << p.To
	}
	for _, i := range set {
		s |= 1 << i
	}
	return a, s, true
}

// elements returns the nodes of a set, ascending.
func elements(set uint64) []int {
	var l []int
	for ; set != 0; set &= set - 1 {
		l = append(l, bits.TrailingZeros64(set))
	}
	return l
}

// attacked returns the nodes that the nodes of a set attack.
func (a *attacks) attacked(set uint64) uint64 {
	reached := uint64(0)
	for ; set != 0; set &= set - 1 {
		reached |= a.by[bits.TrailingZeros64(set)]
	}
	return reached
}

// defended returns the nodes that a set defends: all but those that a node attacks which the set does not attack.
func (a *attacks) defended(set uint64) uint64 {
	free := a.nodes &^ a.attacked(set)
	return a.nodes &^ a.attacked(free)
}

func (a *attacks) conflictFree(set uint64) bool { return a.attacked(set)&set == 0 }

func (a *attacks) admissible(set uint64) bool {
	return a.conflictFree(set) && set&^a.defended(set) == 0
}
