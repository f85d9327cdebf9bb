package graph

import (
	"math/bits"
	"slices"

	"deliberation/api"
)

// walk is a depth-first search for the components of a graph, by Tarjan's algorithm.
type walk struct {
	attacked   []uint64
	stack      []int // the nodes that were visited, and whose component is not complete yet
	places     []int // of each node: 0 before it is visited, its place on the stack (from 1 on), and done in the end
	components []uint64
}

// done is greater than all places on a stack, so that an attack on a completed component leads back to nothing.
const done = api.MaxNodes + 1

// Components: P10.3.
func Components(g api.Graph) [][]int {
	g = valid(g)
	w := walk{attacked: attackedSets(g), places: make([]int, g.N)}
	for i := range g.N {
		if w.places[i] == 0 {
			w.visit(i)
		}
	}
	var lists [][]int
	for _, c := range ordered(w.components, attackedSets(Reverse(g))) {
		lists = append(lists, elements(c))
	}
	return lists
}

// visit puts the node i on the stack, completes what it begins there, and returns the least place that it leads back to: its own, if it is the first node of its component.
func (w *walk) visit(i int) int {
	w.stack = append(w.stack, i)
	own := len(w.stack)
	w.places[i] = own
	least := own
	for _, k := range elements(w.attacked[i]) {
		if w.places[k] == 0 {
			least = min(least, w.visit(k))
		} else {
			least = min(least, w.places[k])
		}
	}
	if least == own {
		w.complete(own)
	}
	return least
}

// complete takes the nodes from a place on from the stack: they are a component.
func (w *walk) complete(place int) {
	c := uint64(0)
	for _, i := range w.stack[place-1:] {
		c |= 1 << i
		w.places[i] = done
	}
	w.stack = w.stack[:place-1]
	w.components = append(w.components, c)
}

// ordered returns the components in the order of P10.3; attackers has the attackers of each node. There is always a free component, as attacks between components form no cycle.
func ordered(components, attackers []uint64) []uint64 {
	rest := slices.Clone(components)
	slices.SortFunc(rest, func(x, y uint64) int { return bits.TrailingZeros64(x) - bits.TrailingZeros64(y) })
	listed := uint64(0)
	isFree := func(c uint64) bool { return attackersOf(c, attackers)&^(listed|c) == 0 }
	var l []uint64
	for len(rest) > 0 {
		k := slices.IndexFunc(rest, isFree)
		l = append(l, rest[k])
		listed |= rest[k]
		rest = slices.Delete(rest, k, k+1)
	}
	return l
}

// attackersOf returns the nodes that attack a node of a set.
func attackersOf(set uint64, attackers []uint64) uint64 {
	all := uint64(0)
	for _, i := range elements(set) {
		all |= attackers[i]
	}
	return all
}
