package proof

import (
	"slices"

	"deliberation/api"
)

const (
	none  = -1 // no clause
	ended = -2 // the search has found a model or gives up

	// maxWork is the number of resolutions and failures after which a search gives up, because most of them would be steps of the refutation. It is far more than SureVars variables can lead to: see fail.
	maxWork = 3 * api.MaxSteps
)

// Solve: P4.3.
func Solve(n int, l [][]int) (api.Answer, api.Errno) {
	if err := Validate(n, l); err != api.OK {
		return api.Answer{}, err
	}
	x, ok := newSearch(n, l).answer()
	// The search pays no attention to the limits of refutations. SureVars variables cannot lead beyond them: see fail.
	if !ok || Check(n, l, x) != api.OK {
		return api.Answer{}, api.ErrLimit
	}
	return x, api.OK
}

// search looks for a model by assumptions and their consequences, and learns a clause from each failure. Its clauses are numbered like those of a refutation: first the given ones, and then those that its steps derive.
type search struct {
	assignment
	given int
	steps []api.Step
	known map[string]int // by key: the number of the clause
	root  int            // the length of the trail before the first assumption
	work  int
}

func newSearch(n int, l [][]int) *search {
	s := &search{assignment: newAssignment(n), given: len(l), known: map[string]int{}}
	for _, c := range l {
		s.learn(c)
		s.count(c, 1)
	}
	return s
}

// learn gives the clause c a number.
func (s *search) learn(c []int) int {
	number := s.add(c)
	s.known[key(c)] = number
	return number
}

// key returns a string that no other clause has.
func key(c []int) string {
	k := make([]byte, 0, 2*len(c))
	for _, x := range c {
		k = append(k, byte(x>>8), byte(x))
	}
	return string(k)
}

// answer returns a model or a refutation, and false if the search gives up.
func (s *search) answer() (api.Answer, bool) {
	c, ok := s.known[key(nil)]
	if !ok {
		s.useAll()
		c = s.decide()
	}
	switch {
	case c != ended:
		return api.Answer{Steps: s.refutation(c)}, true
	case s.work > maxWork:
		return api.Answer{}, false
	}
	return api.Answer{Sat: true, Model: s.model()}, true
}

// decide returns ended with a model as the trail, or the empty clause if there is none. It also returns ended if it gives up.
func (s *search) decide() int {
	for {
		c := s.propagate()
		s.root = len(s.trail)
		if c != none {
			return s.narrow(c)
		}
		c = s.extend()
		if c == ended {
			return ended
		}
		s.follow(c)
	}
}

// extend makes one more assumption and looks for a model. It returns ended if it finds one or gives up. Otherwise it takes back its part of the trail, which begins with the assumption, and returns a clause of which then exactly one element is not false. A caller whose own part has made no element of the clause false takes it back as well and passes the clause on; the next other caller lets the clause follow.
func (s *search) extend() int {
	x := s.choose()
	if x == 0 {
		return ended
	}
	from := len(s.trail)
	s.assign(x, none)
	for {
		if c := s.propagate(); c != none {
			return s.fail(c, from)
		}
		c := s.extend()
		if c == ended {
			return ended
		}
		if s.since(c, from) == 0 {
			s.takeBack(from)
			return c
		}
		s.follow(c)
	}
}

// fail takes back the last part of the trail, which has the index from, because the clause c is false. It returns a clause of which then exactly one element is not false, or ended if it gives up.
//
// The list of the lengths of the parts (the first one has no assumption) grows lexicographically: after a failure, the part to which an element is added is longer than before, and the parts behind it are gone. So what stands in the list before the last part is different in each failure. A failure with r elements in the first part and t in the last one makes at most (t-1)(r+1) + r resolutions. For 12 variables, the sum over all such lists is 4095 failures with 12183 resolutions, and the reasons of the first part and the end of the search take less than 100 more.
func (s *search) fail(c, from int) int {
	c = s.explain(c, from)
	s.takeBack(from)
	s.count(s.clauses[c], 2)
	s.fade()
	s.work++
	if s.work > maxWork {
		return ended
	}
	return c
}

// explain resolves the false clause c with the reasons of the trail, from the end backwards, until only one of its elements has become false since the trail had the length from.
func (s *search) explain(c, from int) int {
	c = s.narrow(c)
	for i := len(s.trail) - 1; s.since(c, from) > 1; i-- {
		if x := s.trail[i]; slices.Contains(s.clauses[c], -x) {
			c = s.resolve(c, x)
		}
	}
	return c
}

// narrow resolves the clause c until no element of it is false without assumptions. This keeps resolvents short.
func (s *search) narrow(c int) int {
	for _, x := range s.clauses[c] {
		if s.isFalse(x) && s.at[variable(x)] < s.root {
			c = s.resolve(c, -x)
		}
	}
	return c
}

// resolve returns the resolvent of the clause c, which contains -x, and the reason of x.
func (s *search) resolve(c, x int) int {
	v := variable(x)
	s.reason[v] = s.narrow(s.reason[v])
	step := api.Step{Left: s.reason[v], Right: c, Pivot: v}
	if x < 0 {
		step.Left, step.Right = step.Right, step.Left
	}
	// There is a resolvent because all elements but x and -x are false.
	r, _ := merge(s.clauses[step.Left], s.clauses[step.Right], v)
	s.work++
	if number, ok := s.known[key(r)]; ok {
		return number
	}
	s.steps = append(s.steps, step)
	return s.learn(r)
}

// refutation returns the steps that lead to the clause c.
func (s *search) refutation(c int) []api.Step {
	needed := make([]bool, len(s.clauses))
	needed[c] = true
	for i := c; i >= s.given; i-- {
		if needed[i] {
			step := s.steps[i-s.given]
			needed[step.Left], needed[step.Right] = true, true
		}
	}
	var steps []api.Step
	number := make([]int, len(s.clauses))
	for i := range number {
		switch {
		case i < s.given:
			number[i] = i
		case needed[i]:
			number[i] = s.given + len(steps)
			step := s.steps[i-s.given]
			steps = append(steps, api.Step{Left: number[step.Left], Right: number[step.Right], Pivot: step.Pivot})
		}
	}
	return steps
}
