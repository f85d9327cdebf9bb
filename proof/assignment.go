package proof

import "slices"

// halving is the number of failures after which all activity is halved, so that recent failures count for more.
const halving = 128

// assignment makes elements of clauses true, one after another, and takes the last ones back. The clauses are given by their numbers.
type assignment struct {
	n       int
	clauses [][]int

	// Each clause in use watches two of its elements (its only one twice). It has to be looked at only when one of them becomes false.
	watched  [][2]int
	watchers [][]int // by element

	trail []int  // the true elements, in the order in which they became true
	next  int    // the index in the trail of the first one whose consequences are not drawn
	holds []bool // by element: whether it is in the trail

	// By variable.
	at       []int  // its index in the trail
	reason   []int  // the clause from which its truth follows, or none
	denied   []bool // whether it was false when it had a truth for the last time
	activity []int  // how often it was in clauses that led to failures; 0 if it is in no clause

	failures int
}

func newAssignment(n int) assignment {
	return assignment{
		n:        n,
		watchers: make([][]int, 2*n+1),
		holds:    make([]bool, 2*n+1),
		at:       make([]int, n+1),
		reason:   make([]int, n+1),
		denied:   make([]bool, n+1),
		activity: make([]int, n+1),
	}
}

func (a *assignment) isTrue(x int) bool  { return a.holds[a.n+x] }
func (a *assignment) isFalse(x int) bool { return a.holds[a.n-x] }

// model returns the truths of the variables.
func (a *assignment) model() []bool {
	return slices.Clone(a.holds[a.n+1:])
}

// add gives the clause c the next number.
func (a *assignment) add(c []int) int {
	a.clauses = append(a.clauses, c)
	a.watched = append(a.watched, [2]int{})
	return len(a.clauses) - 1
}

// useAll takes all clauses into use. None of them may be empty.
func (a *assignment) useAll() {
	for i, c := range a.clauses {
		a.use(i, c[0], c[min(1, len(c)-1)])
	}
	for i, c := range a.clauses {
		if len(c) == 1 && !a.isTrue(c[0]) && !a.isFalse(c[0]) {
			a.assign(c[0], i)
		}
	}
}

// use lets the clause c watch its elements x and y.
func (a *assignment) use(c, x, y int) {
	a.watched[c] = [2]int{x, y}
	a.watchers[a.n+x] = append(a.watchers[a.n+x], c)
	a.watchers[a.n+y] = append(a.watchers[a.n+y], c)
}

// assign makes x true.
func (a *assignment) assign(x, reason int) {
	v := variable(x)
	a.at[v], a.reason[v] = len(a.trail), reason
	a.trail = append(a.trail, x)
	a.holds[a.n+x] = true
}

// takeBack shortens the trail to a length.
func (a *assignment) takeBack(length int) {
	for _, x := range a.trail[length:] {
		a.holds[a.n+x] = false
		a.denied[variable(x)] = x < 0
	}
	a.trail = a.trail[:length]
	a.next = length
}

// propagate draws all consequences of the trail by clauses of which a single element is not false. It returns a clause that is false, or none.
func (a *assignment) propagate() int {
	for a.next < len(a.trail) {
		x := a.trail[a.next]
		a.next++
		if c := a.visit(-x); c != none {
			return c
		}
	}
	return none
}

// visit lets the clauses that watch x, which has become false, watch other elements. Where there is none, it makes the other watched element true. It returns a clause that is false, or none.
func (a *assignment) visit(x int) int {
	list := a.watchers[a.n+x]
	stay := list[:0]
clauses:
	for i, c := range list {
		w := &a.watched[c]
		if w[0] == x {
			w[0], w[1] = w[1], w[0]
		}
		if a.isTrue(w[0]) {
			stay = append(stay, c)
			continue
		}
		for _, y := range a.clauses[c] {
			if y != w[0] && !a.isFalse(y) {
				w[1] = y
				a.watchers[a.n+y] = append(a.watchers[a.n+y], c)
				continue clauses
			}
		}
		stay = append(stay, c)
		if a.isFalse(w[0]) {
			a.watchers[a.n+x] = append(stay, list[i+1:]...)
			return c
		}
		a.assign(w[0], c)
	}
	a.watchers[a.n+x] = stay
	return none
}

// follow makes the only element of the clause c that is not false true, and takes the clause into use.
func (a *assignment) follow(c int) {
	// The clause watches the element that will be the first one to be no longer false, as well.
	open, latest := 0, 0
	for _, x := range a.clauses[c] {
		switch {
		case !a.isFalse(x):
			open = x
		case latest == 0 || a.at[variable(x)] > a.at[variable(latest)]:
			latest = x
		}
	}
	if latest == 0 {
		latest = open
	}
	if a.watched[c] == [2]int{} {
		a.use(c, open, latest)
	}
	a.assign(open, c)
}

// since counts the elements of the clause c that have become false since the trail had a length.
func (a *assignment) since(c, length int) int {
	count := 0
	for _, x := range a.clauses[c] {
		if a.isFalse(x) && a.at[variable(x)] >= length {
			count++
		}
	}
	return count
}

// count adds to the activity of the variables of the clause c.
func (a *assignment) count(c []int, more int) {
	for _, x := range c {
		a.activity[variable(x)] += more
	}
}

// fade halves the activity of all variables from time to time. It does not make it 0.
func (a *assignment) fade() {
	a.failures++
	if a.failures%halving != 0 {
		return
	}
	for v, n := range a.activity {
		a.activity[v] = (n + 1) / 2
	}
}

// choose returns the element to be assumed next: the most active variable without a truth, with the truth that it had last. It returns 0 if all variables of the clauses have truths.
func (a *assignment) choose() int {
	best := 0
	for v := 1; v <= a.n; v++ {
		if a.activity[v] > a.activity[best] && !a.isTrue(v) && !a.isFalse(v) {
			best = v
		}
	}
	if a.denied[best] {
		return -best
	}
	return best
}
