package proof

import (
	"math/bits"
	"math/rand"
	"slices"
	"testing"

	"deliberation/api"
)

// P4.3

// solved calls Solve twice, and sees that the answer is accepted, is the same both times, shares no memory, and leaves the clauses as they are. It returns whether there is a model.
func solved(t *testing.T, n int, l [][]int) bool {
	t.Helper()
	given, same := roomy(l)
	x, err := Solve(n, given)
	if err != api.OK {
		t.Fatalf("error %d for %d clauses", err, len(l))
	}
	if got := Check(n, l, x); got != api.OK {
		t.Fatalf("the answer is not accepted: %d, %t, %d truths, %d steps", got, x.Sat, len(x.Model), len(x.Steps))
	}
	y, _ := Solve(n, given)
	if !sameAnswer(x, y) {
		t.Fatalf("two answers: %v, %v", x, y)
	}
	for i := range x.Model[:cap(x.Model)] {
		x.Model[:cap(x.Model)][i] = !x.Model[:cap(x.Model)][i]
	}
	for i := range x.Steps[:cap(x.Steps)] {
		x.Steps[:cap(x.Steps)][i] = step(-1, -1, -1)
	}
	if Check(n, l, y) != api.OK || !same() {
		t.Fatalf("memory is shared, or the clauses were changed: %v", l)
	}
	return y.Sat
}

// hasModel tries all worlds of n variables.
func hasModel(n int, l [][]int) bool {
	for w := range 1 << n {
		if satisfiesAll(w, l) {
			return true
		}
	}
	return false
}

// spread gives the variable v of each clause the number (v - 1) * by + first.
func spread(l [][]int, first, by int) [][]int {
	out := make([][]int, len(l))
	for i, x := range l {
		for _, y := range x {
			if v := (max(y, -y)-1)*by + first; y > 0 {
				out[i] = append(out[i], v)
			} else {
				out[i] = append(out[i], -v)
			}
		}
	}
	return out
}

// patterns are the clauses with each of n variables, with all combinations of signs.
func patterns(n int) [][]int {
	var l [][]int
	for w := range 1 << n {
		x := from(1, n)
		for i := range x {
			if w>>i&1 == 1 {
				x[i] = -x[i]
			}
		}
		l = append(l, x)
	}
	return l
}

// pigeons are the clauses that put n + 1 pigeons into n holes.
func pigeons(n int) [][]int {
	at := func(pigeon, hole int) int { return pigeon*n + hole + 1 }
	var l [][]int
	for p := range n + 1 {
		l = append(l, from(at(p, 0), at(p, n-1)))
		for q := range p {
			for h := range n {
				l = append(l, c(-at(q, h), -at(p, h)))
			}
		}
	}
	return l
}

// parity are the clauses that say that an odd, or even, number of the variables of a clause are true.
func parity(vars []int, odd bool) [][]int {
	var l [][]int
	for w, x := range patterns(len(vars)) {
		// The pattern is false exactly in the world w.
		if bits.OnesCount(uint(w))%2 == 1 == odd {
			continue
		}
		for i := range x {
			if x[i] > 0 {
				x[i] = vars[i]
			} else {
				x[i] = -vars[i]
			}
		}
		l = append(l, x)
	}
	return l
}

// choose is a random clause with size of n variables.
func choose(random *rand.Rand, n, size int) []int {
	x := random.Perm(n)[:size]
	slices.Sort(x)
	for i := range x {
		x[i]++
		if random.Intn(2) == 0 {
			x[i] = -x[i]
		}
	}
	return x
}

func TestSolveExamples(t *testing.T) {
	for i, x := range []struct {
		n    int
		l    [][]int
		want bool
	}{
		{0, nil, true},
		{1, nil, true},
		{200, nil, true},
		{0, cs(c()), false},
		{200, cs(nil), false},
		{3, cs(c(1), c(1, 2), c()), false},
		{2, cs(c(), c(1), c(-1)), false},
		{1, cs(c(1)), true},
		{1, cs(c(-1)), true},
		{1, cs(c(1), c(-1)), false},
		{1, cs(c(1), c(1), c(1)), true},
		{200, cs(c(200)), true},
		{200, cs(c(-200), c(200)), false},
		{2, refutable, false},
		{2, open, true},
		{2, cs(c(1, 2), c(-1, -2)), true},
		{2, cs(c(1, 2), c(-1, -2), c(1, -2), c(-1, 2)), false},
		{2, cs(c(1, 2), c(1, 2), c(-1, -2), c(1, -2), c(1, -2), c(-1, 2), c(-1, 2)), false},
		{3, cs(c(1, 2), c(2), c(-2)), false},
		{3, cs(c(1, 2, 3), c(-1), c(-2), c(-3)), false},
		{3, cs(c(-1), c(-2), c(1, 2, 3)), true},
		{50, cs(from(1, 50), negated(from(1, 50))), true},
	} {
		if got := solved(t, x.n, x.l); got != x.want {
			t.Errorf("clauses %d: %t", i, got)
		}
	}
}

func TestSolveReportsTheErrorsOfValidate(t *testing.T) {
	for i, x := range wrongs() {
		if got, err := Solve(x.n, x.l); err != x.want || !sameAnswer(got, api.Answer{}) {
			t.Errorf("call %d: %v, %d instead of %d", i, got, err, x.want)
		}
	}
}

func TestSolveAllSmallLists(t *testing.T) {
	for n := range 3 {
		all := allClauses(n)
		for w := range 1 << len(all) {
			var l [][]int
			for i, x := range all {
				if w>>i&1 == 1 {
					l = append(l, x)
				}
			}
			if got := solved(t, n, l); got != hasModel(n, l) {
				t.Fatalf("%v: %t", l, got)
			}
			slices.Reverse(l)
			if got := solved(t, n, l); got != hasModel(n, l) {
				t.Fatalf("%v: %t", l, got)
			}
		}
	}
}

func TestSolveRandomLists(t *testing.T) {
	random := rand.New(rand.NewSource(4))
	count := map[bool]int{}
	for range 6000 {
		n := 1 + random.Intn(api.SureVars)
		var l [][]int
		most := 1 + random.Intn(min(n, 5))
		for range random.Intn(1 + 2*n<<most) {
			l = append(l, choose(random, n, 1+random.Intn(most)))
			if most > 1 && len(l[len(l)-1]) == 1 && random.Intn(4) > 0 {
				l = l[:len(l)-1]
			}
		}
		want := hasModel(n, l)
		if got := solved(t, n, l); got != want {
			t.Fatalf("%d variables, %v: %t", n, l, got)
		}
		count[want]++
	}
	if count[true] < 1000 || count[false] < 1000 {
		t.Errorf("the clauses are no good choice: %v", count)
	}
}

func TestSolveHardListsOfSureVars(t *testing.T) {
	random := rand.New(rand.NewSource(12))
	for size := 2; size <= 8; size++ {
		for range 6 {
			// Clauses are added until there is no model any more.
			var l [][]int
			worlds := from(0, 1<<api.SureVars-1)
			for len(worlds) > 0 && len(l) < api.MaxClauses {
				x := choose(random, api.SureVars, size)
				l = append(l, x)
				worlds = slices.DeleteFunc(worlds, func(w int) bool { return !satisfies(w, x) })
			}
			if got := solved(t, api.SureVars, l); got != (len(worlds) > 0) {
				t.Errorf("%d clauses of %d elements: %t", len(l), size, got)
			}
			if got := solved(t, api.MaxVars, spread(l[:len(l)-1], 13, 17)); !got && len(worlds) == 0 {
				t.Errorf("%d clauses of %d elements without the last one: %t", len(l), size, got)
			}
		}
	}
}

func TestSolveNeverGivesUpWithSureVars(t *testing.T) {
	full := patterns(11)
	if solved(t, 11, full) || solved(t, api.MaxVars, spread(full, 200-10*19, 19)) {
		t.Error("all patterns of 11 variables have a model")
	}
	for i := 0; i < len(full); i += 97 {
		rest := slices.Delete(slices.Clone(full), i, i+1)
		x, err := Solve(11, rest)
		if err != api.OK || !slices.Equal(x.Model, truths(11, i)) {
			t.Fatalf("all patterns but %d: %v, %d", i, x.Model, err)
		}
	}
	// Two variables have no part in the failures, but need truths nevertheless.
	apart := append(patterns(10)[:1023], c(11, 12))
	if !solved(t, 12, apart) || !solved(t, api.MaxVars, spread(apart, 1, 18)) || !solved(t, 12, append(apart, c(-11, -12))) {
		t.Error("all patterns of 10 variables but one, and a clause of two others, have no model")
	}
	// There are 96 patterns of 12 variables too many, so as many pairs stand as one clause without the last variable.
	most := patterns(12)
	for i := range len(most) - api.MaxClauses {
		most[i] = most[i][:11]
	}
	most = slices.Delete(most, 2048, 2048+len(most)-api.MaxClauses)
	if len(most) != api.MaxClauses || solved(t, 12, most) {
		t.Error("the patterns of 12 variables have a model")
	}
	slices.Reverse(most)
	if solved(t, api.MaxVars, spread(most, 2, 18)) {
		t.Error("the reversed patterns of 12 variables have a model")
	}
	if !solved(t, 12, most[1:]) || !solved(t, 12, most[:len(most)-1]) {
		t.Error("the patterns but one have no model")
	}
	for holes := 1; holes <= 3; holes++ {
		if solved(t, 12, pigeons(holes)) {
			t.Errorf("%d holes suffice", holes)
		}
	}
}

func TestSolveParities(t *testing.T) {
	random := rand.New(rand.NewSource(5))
	for range 60 {
		var l [][]int
		for range 13 {
			vars := choose(random, 12, 2+random.Intn(5))
			for i, x := range vars {
				vars[i] = max(x, -x)
			}
			l = append(l, parity(vars, random.Intn(2) == 0)...)
		}
		if got := solved(t, 12, l); got != hasModel(12, l) {
			t.Fatalf("%v: %t", l, got)
		}
	}
	both := append(parity(from(1, 11), true), parity(from(1, 11), false)...)
	if solved(t, 12, both) {
		t.Error("a number is odd and even")
	}
}

// check sees that Solve returns an answer that is accepted, or nothing because it gave up.
func check(t *testing.T, name string, n int, l [][]int) api.Answer {
	t.Helper()
	x, err := Solve(n, l)
	switch {
	case err == api.ErrLimit:
		if !sameAnswer(x, api.Answer{}) {
			t.Errorf("%s: an answer, but it gave up", name)
		}
	case err != api.OK || Check(n, l, x) != api.OK:
		t.Errorf("%s: %d, and the answer is not accepted", name, err)
	}
	return x
}

func TestSolveManyVariables(t *testing.T) {
	random := rand.New(rand.NewSource(6))
	for _, x := range [][3]int{{13, 60, 3}, {30, 128, 3}, {60, 255, 3}, {100, 430, 3}, {200, 700, 3}, {200, 860, 3}, {200, 2000, 2}, {200, 3900, 3}, {200, 4000, 5}, {200, 4000, 50}} {
		var l [][]int
		for range x[1] {
			l = append(l, choose(random, x[0], x[2]))
		}
		check(t, "random clauses", x[0], l)
	}
	for _, holes := range []int{9, 11, 13} {
		if check(t, "pigeons", holes*(holes+1), pigeons(holes)).Sat {
			t.Errorf("%d holes suffice", holes)
		}
	}
}

// tangled are random clauses of three of 145 variables, which have a long refutation.
func tangled(seed int64) [][]int {
	random := rand.New(rand.NewSource(seed))
	var l [][]int
	for range 660 {
		l = append(l, choose(random, 145, 3))
	}
	return l
}

func TestSolveKeepsTheLimitsOfRefutations(t *testing.T) {
	beyond := 0
	for seed := range int64(10) {
		l := tangled(seed)
		found, ok := newSearch(145, l).answer()
		if ok && !found.Sat && len(found.Steps) > api.MaxSteps {
			beyond++
		}
		check(t, "tangled clauses", 145, l)
	}
	if beyond == 0 {
		t.Error("the clauses are no good choice: no refutation has too many steps")
	}
}

// The document lets Solve give up here, but a search that learns from its failures has no need to.
func TestSolveEasyListsOfManyVariables(t *testing.T) {
	chain := cs(c(1))
	for v := 1; v < api.MaxVars; v++ {
		chain = append(chain, c(-v, v+1))
	}
	if !solved(t, api.MaxVars, chain) || solved(t, api.MaxVars, append(slices.Clone(chain), c(-200))) {
		t.Error("a chain")
	}
	// Four variables contradict each other. The 20 pairs before them have nothing to do with it.
	var l [][]int
	for v := 1; v < 40; v += 2 {
		l = append(l, c(v, v+1), c(-v, -v-1))
	}
	l = append(l, spread(patterns(4), 197, 1)...)
	if solved(t, api.MaxVars, l) {
		t.Error("independent parts")
	}
	for holes := 4; holes <= 8; holes++ {
		if solved(t, holes*(holes+1), pigeons(holes)) {
			t.Errorf("%d holes suffice", holes)
		}
	}
	if solved(t, 99, append(cs(from(1, 50), append(c(-1), from(51, 99)...)), units(2, 99)...)) {
		t.Error("clauses that are long at first")
	}
}

// units are the clauses that deny each variable from the first to the last one.
func units(first, last int) [][]int {
	var l [][]int
	for _, v := range from(first, last) {
		l = append(l, c(-v))
	}
	return l
}
