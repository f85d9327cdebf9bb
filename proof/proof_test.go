package proof

import (
	"math"
	"math/rand"
	"slices"
	"testing"

	"deliberation/api"
)

func c(l ...int) []int                        { return l }
func cs(l ...[]int) [][]int                   { return l }
func step(left, right, pivot int) api.Step    { return api.Step{Left: left, Right: right, Pivot: pivot} }
func model(truths ...bool) api.Answer         { return api.Answer{Sat: true, Model: truths} }
func refutation(steps ...api.Step) api.Answer { return api.Answer{Steps: steps} }
func times[T any](n int, x T) []T             { return slices.Repeat([]T{x}, n) }
func sameAnswer(x, y api.Answer) bool {
	return x.Sat == y.Sat && slices.Equal(x.Model, y.Model) && slices.Equal(x.Steps, y.Steps)
}

// from is the clause of the variables from the first to the last one.
func from(first, last int) []int {
	var l []int
	for v := first; v <= last; v++ {
		l = append(l, v)
	}
	return l
}

// negated is the clause with all signs changed.
func negated(l []int) []int {
	l = slices.Clone(l)
	for i := range l {
		l[i] = -l[i]
	}
	return l
}

// allClauses are all clauses of n variables.
func allClauses(n int) [][]int {
	l := cs(c())
	for v := 1; v <= n; v++ {
		for _, x := range slices.Clone(l) {
			l = append(l, append(slices.Clone(x), v), append(slices.Clone(x), -v))
		}
	}
	return l
}

// roomy returns the clauses with spare capacity behind all lists, and a function that reports whether they and the memory behind them are as they were.
func roomy(l [][]int) ([][]int, func() bool) {
	build := func() [][]int {
		out := make([][]int, 0, len(l)+2)
		for _, x := range l {
			out = append(out, append(slices.Clone(x), 77, 78)[:len(x)])
		}
		return append(out, c(79), nil)
	}
	got, want := build(), build()
	same := func(x, y []int) bool { return slices.Equal(x[:cap(x)][:len(x)+1], y[:cap(y)][:len(y)+1]) }
	return got[:len(l)], func() bool {
		for i := range l {
			if !slices.Equal(got[i], want[i]) || !same(got[i], want[i]) {
				return false
			}
		}
		return slices.Equal(got[len(l)], c(79)) && got[len(l)+1] == nil
	}
}

// wrong is a call with the error of Validate.
type wrong struct {
	n    int
	l    [][]int
	want api.Errno
}

// wrongs are calls with all errors of Validate, also with several.
func wrongs() []wrong {
	tooMany := make([][]int, api.MaxClauses+1)
	long := from(1, api.MaxClause+1)
	return []wrong{
		{-1, nil, api.ErrRange},
		{201, nil, api.ErrRange},
		{math.MinInt, cs(c(1)), api.ErrRange},
		{math.MaxInt, cs(c(1)), api.ErrRange},
		{-1, tooMany, api.ErrRange},
		{201, tooMany, api.ErrRange},
		{0, tooMany, api.ErrLimit},
		{200, tooMany, api.ErrLimit},
		{5, times(api.MaxClauses+1, c(9)), api.ErrLimit},
		{5, times(2*api.MaxClauses, long), api.ErrLimit},
		{200, cs(long), api.ErrLimit},
		{200, cs(c(1), negated(long)), api.ErrLimit},
		{200, cs(times(1000, 0)), api.ErrLimit},
		{1, cs(long), api.ErrLimit},
		{1, cs(times(51, 1)), api.ErrLimit},
		{0, cs(c(1)), api.ErrRange},
		{0, cs(c(), c(-1)), api.ErrRange},
		{3, cs(c(0)), api.ErrRange},
		{3, cs(c(1, 2, 0)), api.ErrRange},
		{3, cs(c(4)), api.ErrRange},
		{3, cs(c(-4)), api.ErrRange},
		{200, cs(c(201)), api.ErrRange},
		{200, cs(c(-201)), api.ErrRange},
		{200, cs(c(math.MinInt)), api.ErrRange},
		{200, cs(c(math.MaxInt)), api.ErrRange},
		{200, cs(c(1, math.MinInt, 2)), api.ErrRange},
		{3, cs(c(2, 1, 4)), api.ErrRange},
		{3, cs(c(2, 2, 0)), api.ErrRange},
		{3, cs(c(3, 2, 1, -4)), api.ErrRange},
		{3, cs(c(4), c(2, 1)), api.ErrRange},
		{3, cs(c(0), long), api.ErrRange},
		{3, cs(c(2, 1)), api.ErrOrder},
		{3, cs(c(1, 1)), api.ErrOrder},
		{3, cs(c(1, -1)), api.ErrOrder},
		{3, cs(c(-2, 1)), api.ErrOrder},
		{3, cs(c(1, 2, -2, 3)), api.ErrOrder},
		{3, cs(c(1, 3, 2)), api.ErrOrder},
		{3, cs(c(-1, -3, -2)), api.ErrOrder},
		{3, cs(c(1), c(2), c(2, 1), c(4), long), api.ErrOrder},
		{3, cs(c(2, 1), long), api.ErrOrder},
		{200, cs(times(50, 1)), api.ErrOrder},
	}
}

// P4.1

func TestValidate(t *testing.T) {
	for i, x := range wrongs() {
		if got := Validate(x.n, x.l); got != x.want {
			t.Errorf("call %d: %d instead of %d", i, got, x.want)
		}
	}
	for i, x := range []struct {
		n int
		l [][]int
	}{
		{0, nil}, {0, cs()}, {0, cs(nil)}, {0, cs(c(), c(), c())}, {200, nil}, {1, cs(c(1), c(-1), c(1))}, {0, make([][]int, api.MaxClauses)},
		{3, cs(c(1, -2, 3), c(-1, 2), c(-3))}, {200, cs(c(-200), c(200), c(1, 200))}, {50, times(api.MaxClauses, from(1, 50))}, {200, cs(from(151, 200), negated(from(1, 50)))},
	} {
		l, same := roomy(x.l)
		if got := Validate(x.n, l); got != api.OK || !same() {
			t.Errorf("clauses %d: %d, %t", i, got, same())
		}
	}
}

func TestValidateAllShortClauses(t *testing.T) {
	values := []int{math.MinInt, -4, -3, -2, -1, 0, 1, 2, 3, 4, math.MaxInt}
	for n := range 5 {
		in := func(x int) bool { return -n <= x && x <= n && x != 0 }
		for _, x := range values {
			for _, y := range values {
				want := api.OK
				switch {
				case !in(x) || !in(y):
					want = api.ErrRange
				case x*x >= y*y:
					want = api.ErrOrder
				}
				if got := Validate(n, cs(c(), c(x, y))); got != want {
					t.Errorf("%d variables, (%d %d): %d instead of %d", n, x, y, got, want)
				}
			}
		}
	}
}

// P4.2

// resolvent is the resolvent of two clauses, in the words of the document.
func resolvent(a, b []int, v int) ([]int, bool) {
	if !slices.Contains(a, v) || !slices.Contains(b, -v) {
		return nil, false
	}
	in := map[int]bool{}
	for _, x := range a {
		in[x] = in[x] || x != v
	}
	for _, x := range b {
		in[x] = in[x] || x != -v
	}
	var l []int
	for u := 1; u <= api.MaxVars; u++ {
		switch {
		case in[u] && in[-u]:
			return nil, false
		case in[u]:
			l = append(l, u)
		case in[-u]:
			l = append(l, -u)
		}
	}
	return l, len(l) <= api.MaxClause
}

func TestResolveAllShortClauses(t *testing.T) {
	all := allClauses(4)
	for _, a := range all {
		for _, b := range all {
			for v := -5; v <= 5; v++ {
				want, ok := []int(nil), false
				if v > 0 {
					want, ok = resolvent(a, b, v)
				}
				l, same := roomy(cs(a, b))
				got, found := Resolve(l[0], l[1], v)
				if found != ok || !slices.Equal(got, want) || !same() {
					t.Fatalf("%v, %v on %d: %v, %t instead of %v, %t", a, b, v, got, found, want, ok)
				}
			}
		}
	}
}

func TestResolveRandomClauses(t *testing.T) {
	random := rand.New(rand.NewSource(42))
	found := 0
	for range 20000 {
		some := func(sure, chance int) []int {
			var l []int
			for v := 1; v <= api.MaxVars && len(l) < api.MaxClause; v++ {
				switch {
				case v == sure || v == -sure:
					l = append(l, sure)
				case random.Intn(chance) == 0:
					sign := 1
					if random.Intn(5) == 0 {
						sign = -1
					}
					l = append(l, sign*v)
				}
			}
			return l
		}
		v, chance := 1+random.Intn(20), 2+random.Intn(100)
		a, b := some(v, chance), some(-v, chance)
		want, ok := resolvent(a, b, v)
		got, is := Resolve(a, b, v)
		if !ok {
			want = nil
		}
		if is != ok || !slices.Equal(got, want) {
			t.Fatalf("%v, %v on %d: %v, %t instead of %v, %t", a, b, v, got, is, want, ok)
		}
		if is {
			found++
		}
	}
	if found < 2000 || found > 18000 {
		t.Errorf("the clauses are no good choice: %d resolvents", found)
	}
}

func TestResolveAtTheLimits(t *testing.T) {
	left := append(c(1), from(2, 50)...)
	for i, x := range []struct {
		a, b  []int
		pivot int
		want  []int
		ok    bool
	}{
		{c(1), c(-1), 1, nil, true},
		{c(200), c(-200), 200, nil, true},
		{left, c(-1, 51), 1, from(2, 51), true},
		{left, c(-1, 51, 52), 1, nil, false},
		{c(1, 51, 52), append(c(-1), from(2, 50)...), 1, nil, false},
		{append(c(1), from(2, 26)...), append(c(-1), from(27, 51)...), 1, from(2, 51), true},
		{append(c(1), from(2, 26)...), append(c(-1), from(27, 52)...), 1, nil, false},
		{left, append(c(-1), from(2, 50)...), 1, from(2, 50), true},
		{left, append(c(-1), from(3, 51)...), 1, from(2, 51), true},
		{left, append(c(-1), negated(from(2, 50))...), 1, nil, false},
		{append(c(1), from(152, 200)...), c(-1), 1, from(152, 200), true},
		{append(from(151, 199), 200), c(-200), 200, from(151, 199), true},
	} {
		got, ok := Resolve(x.a, x.b, x.pivot)
		if ok != x.ok || !slices.Equal(got, x.want) {
			t.Errorf("clauses %d: %v, %t", i, got, ok)
		}
	}
}

func TestResolveWhatIsNoClause(t *testing.T) {
	good := c(-1)
	for i, a := range cs(
		c(1, 1), c(1, 0), c(0, 1), c(2, 1), c(1, -1), c(1, 3, 2), c(1, 201), c(1, -201), c(1, math.MinInt), c(1, math.MaxInt),
		from(1, 51), times(51, 1), from(1, 300), c(1, 2, -2),
	) {
		if got, ok := Resolve(a, good, 1); ok || got != nil {
			t.Errorf("left clause %d: %v", i, got)
		}
		b := slices.Clone(a)
		b[slices.Index(b, 1)] = -1
		if got, ok := Resolve(c(1), b, 1); ok || got != nil {
			t.Errorf("right clause %d: %v", i, got)
		}
	}
	for _, v := range []int{math.MinInt, -201, -1, 0, 201, math.MaxInt} {
		for _, l := range [][][]int{cs(c(v), c(-v)), cs(c(1), c(-1)), cs(c(-1), c(1)), cs(c(), c())} {
			if got, ok := Resolve(l[0], l[1], v); ok || got != nil {
				t.Errorf("%v on %d: %v", l, v, got)
			}
		}
	}
}

func TestResolventsAreNewMemory(t *testing.T) {
	for _, x := range []struct {
		a, b  []int
		pivot int
	}{{c(1, 2, 3), c(-1), 1}, {c(1), c(-1, 2, 3), 1}, {c(1, 2), c(-1, 2, 3), 1}, {c(2, 5), c(-5), 5}, {c(5), c(2, -5), 5}} {
		l, same := roomy(cs(x.a, x.b))
		got, ok := Resolve(l[0], l[1], x.pivot)
		got = got[:cap(got)]
		for i := range got {
			got[i] = 99
		}
		if !ok || !same() {
			t.Errorf("%v, %v on %d: %t, %t", x.a, x.b, x.pivot, ok, same())
		}
	}
}

// satisfies reports whether the bits of the world (the lowest one is the variable 1) make a clause true.
func satisfies(world int, clause []int) bool {
	for _, x := range clause {
		if x > 0 && world>>(x-1)&1 == 1 || x < 0 && world>>(-x-1)&1 == 0 {
			return true
		}
	}
	return false
}

func satisfiesAll(world int, l [][]int) bool {
	for _, x := range l {
		if !satisfies(world, x) {
			return false
		}
	}
	return true
}

// truths are the n lowest bits of the world.
func truths(n, world int) []bool {
	l := make([]bool, n)
	for i := range l {
		l[i] = world>>i&1 == 1
	}
	return l
}

func TestResolventsHoldInTheModelsOfBothClauses(t *testing.T) {
	all := allClauses(3)
	for _, a := range all {
		for _, b := range all {
			for v := 1; v <= 3; v++ {
				got, ok := Resolve(a, b, v)
				for w := range 8 {
					if ok && satisfies(w, a) && satisfies(w, b) && !satisfies(w, got) {
						t.Errorf("%v, %v on %d: %v", a, b, v, got)
					}
				}
			}
		}
	}
}

// P4.4

var (
	refutable = cs(c(1), c(-1, 2), c(-2)) // example 1 of the document
	open      = cs(c(1, 2), c(-1, 2))     // example 2
	first     = step(0, 1, 1)
	second    = step(3, 2, 2)
)

func TestCheckModels(t *testing.T) {
	for i, x := range []struct {
		n    int
		l    [][]int
		a    api.Answer
		want api.Errno
	}{
		{2, open, model(false, true), api.OK},
		{2, open, model(true, true), api.OK},
		{2, open, model(false, false), api.ErrProof},
		{2, open, model(true, false), api.ErrProof},
		{2, open, model(), api.ErrKind},
		{2, open, model(true), api.ErrKind},
		{2, open, model(true, true, true), api.ErrKind},
		{2, open, model(false), api.ErrKind},
		{2, open, api.Answer{Sat: true, Steps: []api.Step{first}, Model: truths(2, 3)}, api.ErrKind},
		{2, open, api.Answer{Sat: true, Steps: []api.Step{first}, Model: truths(2, 0)}, api.ErrKind},
		{2, refutable, api.Answer{Sat: true, Steps: []api.Step{first, second}}, api.ErrKind},
		{2, refutable, model(true, true), api.ErrProof},
		{0, nil, model(), api.OK},
		{0, nil, model(true), api.ErrKind},
		{0, cs(c()), model(), api.ErrProof},
		{2, cs(c(2), c()), model(true, true), api.ErrProof},
		{3, nil, model(false, true, false), api.OK},
		{200, cs(c(200), c(-199)), api.Answer{Sat: true, Model: append(times(199, false), true)}, api.OK},
		{200, cs(c(200), c(-199)), api.Answer{Sat: true, Model: times(200, false)}, api.ErrProof},
		{200, cs(c(200), c(-199)), api.Answer{Sat: true, Model: times(200, true)}, api.ErrProof},
		{2, cs(c(1), c(2)), api.Answer{Sat: true, Model: truths(2, 3), Steps: make([]api.Step, api.MaxSteps+1)}, api.ErrKind},
	} {
		if got := Check(x.n, x.l, x.a); got != x.want {
			t.Errorf("answer %d: %d instead of %d", i, got, x.want)
		}
	}
}

func TestCheckAllModels(t *testing.T) {
	all := allClauses(3)
	for i, a := range all {
		for _, b := range all[i:] {
			for w := range 8 {
				want := api.ErrProof
				if satisfies(w, a) && satisfies(w, b) {
					want = api.OK
				}
				if got := Check(3, cs(a, b), model(truths(3, w)...)); got != want {
					t.Fatalf("%v, %v, world %d: %d", a, b, w, got)
				}
			}
		}
	}
}

func TestCheckRefutations(t *testing.T) {
	for i, x := range []struct {
		n    int
		l    [][]int
		a    api.Answer
		want api.Errno
	}{
		{2, refutable, refutation(first, second), api.OK},
		{2, refutable, refutation(step(1, 2, 2), step(0, 3, 1)), api.OK},
		{2, refutable, refutation(first, second, second), api.OK},
		{2, refutable, refutation(first, first, step(4, 2, 2)), api.OK},
		{2, refutable, refutation(), api.ErrProof},
		{2, refutable, refutation(first), api.ErrProof},
		{2, refutable, refutation(second), api.ErrProof},
		{2, refutable, refutation(second, first), api.ErrProof},
		{2, refutable, refutation(first, second, first), api.ErrProof},
		{2, refutable, refutation(step(1, 0, 1), second), api.ErrProof},
		{2, refutable, refutation(step(0, 1, 2), second), api.ErrProof},
		{2, refutable, refutation(step(0, 1, -1), second), api.ErrProof},
		{2, refutable, refutation(step(0, 1, 0), second), api.ErrProof},
		{2, refutable, refutation(first, step(2, 3, -2)), api.ErrProof},
		{2, refutable, refutation(first, step(2, 3, 2)), api.ErrProof},
		{2, refutable, refutation(first, second, step(0, 0, 0)), api.ErrProof},
		{2, refutable, refutation(step(0, 0, 0), first, step(4, 2, 2)), api.ErrProof},
		{2, refutable, refutation(step(-1, 1, 1), second), api.ErrProof},
		{2, refutable, refutation(step(0, -1, 1), second), api.ErrProof},
		{2, refutable, refutation(step(0, 3, 1), second), api.ErrProof},
		{2, refutable, refutation(step(3, 1, 1), second), api.ErrProof},
		{2, refutable, refutation(first, step(4, 2, 2)), api.ErrProof},
		{2, refutable, refutation(first, step(3, 4, 2)), api.ErrProof},
		{2, refutable, refutation(step(math.MinInt, 1, 1)), api.ErrProof},
		{2, refutable, refutation(step(0, math.MaxInt, 1)), api.ErrProof},
		{2, refutable, refutation(step(0, 1, math.MinInt)), api.ErrProof},
		{2, refutable, refutation(step(0, 1, math.MaxInt)), api.ErrProof},
		{2, refutable, api.Answer{Model: truths(2, 3), Steps: []api.Step{first, second}}, api.ErrKind},
		{2, refutable, api.Answer{Model: truths(1, 1)}, api.ErrKind},
		{2, refutable, api.Answer{Model: truths(1, 1), Steps: make([]api.Step, api.MaxSteps+1)}, api.ErrKind},
		{2, refutable, refutation(make([]api.Step, api.MaxSteps+1)...), api.ErrLimit},
		{2, refutable, refutation(make([]api.Step, api.MaxSteps)...), api.ErrProof},
		{2, refutable, refutation(append(times(api.MaxSteps-1, first), second)...), api.OK},
		{2, refutable, refutation(append(times(api.MaxSteps, first), second)...), api.ErrLimit},
		{2, open, refutation(), api.ErrProof},
		{2, open, refutation(step(0, 1, 1)), api.ErrProof},
		{0, nil, refutation(), api.ErrProof},
		{0, nil, refutation(step(0, 0, 1)), api.ErrProof},
		{0, cs(c()), refutation(), api.OK},
		{0, cs(nil), refutation(), api.OK},
		{5, cs(c(1, 2), c(), c(3)), refutation(), api.OK},
		{2, cs(c(1, 2), c(), c(-1)), refutation(step(0, 2, 1)), api.ErrProof},
		{2, cs(c(1), c(), c(-1)), refutation(step(0, 2, 1)), api.OK},
		{2, cs(c(1, 2), c(-1, -2), c(1), c(-1)), refutation(step(0, 1, 1), step(2, 3, 1)), api.ErrProof},
		{52, cs(append(c(1), from(3, 51)...), c(-1, 2, 52), c(1), c(-1)), refutation(step(0, 1, 1), step(2, 3, 1)), api.ErrProof},
		{51, cs(append(c(1), from(3, 51)...), c(-1, 2), c(1), c(-1)), refutation(step(0, 1, 1), step(2, 3, 1)), api.OK},
	} {
		if got := Check(x.n, x.l, x.a); got != x.want {
			t.Errorf("answer %d: %d instead of %d", i, got, x.want)
		}
	}
}

func TestCheckReportsTheErrorsOfValidate(t *testing.T) {
	for i, x := range wrongs() {
		for k, a := range []api.Answer{
			model(), model(true), refutation(), refutation(first, second), {Sat: true, Steps: []api.Step{first}}, {Model: truths(2, 0)},
			refutation(make([]api.Step, api.MaxSteps+1)...),
		} {
			if got := Check(x.n, x.l, a); got != x.want {
				t.Errorf("call %d, answer %d: %d instead of %d", i, k, got, x.want)
			}
		}
	}
}

// proves reports whether the steps are a refutation, in the words of the document.
func proves(l [][]int, steps []api.Step) bool {
	numbered := map[int][]int{}
	for i, x := range l {
		numbered[i] = x
	}
	for i, s := range steps {
		a, ok := numbered[s.Left]
		b, also := numbered[s.Right]
		x, is := resolvent(a, b, s.Pivot)
		if !ok || !also || !is || s.Pivot < 1 {
			return false
		}
		numbered[len(l)+i] = x
	}
	if len(steps) > 0 {
		return len(numbered[len(l)+len(steps)-1]) == 0
	}
	return slices.ContainsFunc(l, func(x []int) bool { return len(x) == 0 })
}

func TestCheckRandomRefutations(t *testing.T) {
	random := rand.New(rand.NewSource(7))
	all := allClauses(3)
	accepted := 0
	for range 200000 {
		var l [][]int
		for range 2 + random.Intn(4) {
			l = append(l, all[random.Intn(1+random.Intn(len(all)))])
		}
		var steps []api.Step
		for i := range random.Intn(4) {
			steps = append(steps, step(random.Intn(len(l)+i+1), random.Intn(len(l)+i+1), 1+random.Intn(3)))
		}
		want := api.ErrProof
		if proves(l, steps) {
			want = api.OK
		}
		if got := Check(3, l, refutation(steps...)); got != want {
			t.Fatalf("%v, %v: %d instead of %d", l, steps, got, want)
		}
		if want == api.OK && len(steps) > 0 {
			accepted++
		}
		for w := range 8 {
			if want == api.OK && satisfiesAll(w, l) {
				t.Fatalf("%v has the model %d and a refutation", l, w)
			}
		}
	}
	if accepted < 100 {
		t.Errorf("the steps are no good choice: %d refutations", accepted)
	}
}

func TestCheckChangesNothing(t *testing.T) {
	for _, x := range []struct {
		l [][]int
		a api.Answer
	}{{refutable, refutation(first, second)}, {open, model(true, true)}, {refutable, model(true, true)}, {open, refutation(first)}} {
		l, same := roomy(x.l)
		a := api.Answer{Sat: x.a.Sat, Model: append(slices.Clone(x.a.Model), true)[:len(x.a.Model)], Steps: append(slices.Clone(x.a.Steps), first)[:len(x.a.Steps)]}
		Check(2, l, a)
		if !same() || !sameAnswer(a, x.a) || !a.Model[:len(a.Model)+1][len(a.Model)] || a.Steps[:len(a.Steps)+1][len(a.Steps)] != first {
			t.Errorf("%v, %v: an argument was changed", x.l, x.a)
		}
	}
}
