package search

import (
	"math/bits"
	"slices"

	"deliberation/api"
	"deliberation/labelling"
)

// labels has for each label the set of the nodes that can have it, as bits; MaxNodes of them fit in a word.
type labels [api.Undecided + 1]uint64

// surelyIn returns the nodes that can only be In.
func (l labels) surelyIn() uint64 { return l[api.In] &^ l[api.Out] &^ l[api.Undecided] }

// list returns the labels of n nodes that have one at most; 0 stands for none.
func (l labels) list(n int) []int {
	list := make([]int, n)
	for label, set := range l {
		for ; set != 0; set &= set - 1 {
			list[bits.TrailingZeros64(set)] = label
		}
	}
	return list
}

// search looks for the labellings of some nodes under which all of them are legal.
type search struct {
	nodes     uint64
	attackers [api.MaxNodes]uint64 // for each node, those that attack it
	can       labels
	found     []labels
	tooMany   bool
}

// run returns the labellings of n nodes that are found, in lexicographic order.
func (s *search) run(n int) ([][]int, api.Errno) {
	s.descend()
	if s.tooMany {
		return nil, api.ErrLimit
	}
	var lists [][]int
	for _, l := range s.found {
		lists = append(lists, l.list(n))
	}
	slices.SortFunc(lists, labelling.Compare)
	return lists, api.OK
}

// descend finds all labellings with labels that the nodes still can have.
func (s *search) descend() {
	if s.tooMany || !s.narrow() {
		return
	}
	node := s.choice()
	if node == 0 {
		s.add()
		return
	}
	before := s.can
	s.can[api.Out] &^= node
	s.can[api.Undecided] &^= node
	s.descend()
	s.can = before
	s.can[api.In] &^= node
	s.descend()
}

func (s *search) add() {
	if len(s.found) == api.MaxFound {
		s.tooMany = true
		return
	}
	s.found = append(s.found, s.can)
}

// narrow takes away labels with which a node is not legal, until there are no more such labels. It reports whether every node still has a label.
func (s *search) narrow() bool {
	for before := (labels{}); s.can != before; {
		before = s.can
		for set := s.nodes; set != 0; set &= set - 1 {
			s.narrowAt(bits.TrailingZeros64(set))
		}
	}
	return s.can[api.In]|s.can[api.Out]|s.can[api.Undecided] == s.nodes
}

// narrowAt takes away labels of a node that do not fit those of its attackers, and labels of its attackers that do not fit its own.
func (s *search) narrowAt(i int) {
	node, attackers := uint64(1)<<i, s.attackers[i]
	if attackers&^s.can[api.Out] != 0 {
		s.can[api.In] &^= node
	}
	if attackers&s.can[api.In] == 0 {
		s.can[api.Out] &^= node
	}
	if attackers&s.can[api.Undecided] == 0 || attackers&s.can.surelyIn() != 0 {
		s.can[api.Undecided] &^= node
	}
	if s.can[api.Out]&node == 0 {
		s.can[api.In] &^= attackers
		if s.can[api.Undecided]&node == 0 {
			s.can[api.Undecided] &^= attackers
		}
	}
}

// choice returns a node that can be In or not, as a set, and the empty set if every node has one label left. Where a node must be In or Out and is not yet, it is one of the fewest that can settle this by being In: so the search does not try labels that have nothing to do with the reason for which it must go back.
func (s *search) choice() uint64 {
	in := s.can.surelyIn()
	chosen, fewest := s.can[api.In]&^in, api.MaxNodes+1
	for set := s.nodes &^ s.can[api.Undecided]; set != 0; set &= set - 1 {
		i := bits.TrailingZeros64(set)
		settling := (s.attackers[i] | 1<<i) & s.can[api.In]
		if n := bits.OnesCount64(settling); settling&in == 0 && n < fewest {
			chosen, fewest = settling, n
		}
	}
	return chosen & -chosen
}
