package formula

import (
	"math"
	"slices"
	"testing"

	"deliberation/api"
)

var (
	yes = api.Formula{Op: api.FTrue}
	no  = api.Formula{Op: api.FFalse}
	a   = atom("a")
	b   = atom("b")
	c   = atom("c")
	d   = atom("d")
)

func atom(name string) api.Formula              { return api.Formula{Op: api.FAtom, Name: name} }
func op(n int, l ...api.Formula) api.Formula    { return api.Formula{Op: n, Args: l} }
func not(f api.Formula) api.Formula             { return op(api.FNot, f) }
func and(l ...api.Formula) api.Formula          { return op(api.FAnd, l...) }
func or(l ...api.Formula) api.Formula           { return op(api.FOr, l...) }
func implies(f, g api.Formula) api.Formula      { return op(api.FImplies, f, g) }
func iff(f, g api.Formula) api.Formula          { return op(api.FIff, f, g) }
func times(n int, f api.Formula) []api.Formula  { return slices.Repeat([]api.Formula{f}, n) }
func named(f api.Formula, s string) api.Formula { f.Name = s; return f }

// nots is f behind n negations.
func nots(n int, f api.Formula) api.Formula {
	for range n {
		f = not(f)
	}
	return f
}

// sized is a formula with size nodes that is not deep.
func sized(size int) api.Formula {
	switch size {
	case 1:
		return a
	case 2:
		return not(a)
	}
	return and(sized((size-1)/2), sized(size/2))
}

// shared is a formula with 2 to the power of 200 nodes and more, in little memory.
func shared() api.Formula {
	f := a
	for range 200 {
		f = and(f, f)
	}
	return f
}

// endless is a formula that is an argument of itself.
func endless() api.Formula {
	args := make([]api.Formula, 1)
	args[0] = not(a)
	args[0].Args = args
	return args[0]
}

// frozen returns f with spare capacity behind all its lists, and a function that reports whether f and the memory behind it are as they were.
func frozen(f api.Formula) (api.Formula, func() bool) {
	before := clone(f)
	spare := atom("spare")
	var tails [][]api.Formula
	var roomy func(g api.Formula) api.Formula
	roomy = func(g api.Formula) api.Formula {
		args := make([]api.Formula, 0, len(g.Args)+2)
		for _, h := range g.Args {
			args = append(args, roomy(h))
		}
		tails = append(tails, append(args, spare, spare)[len(args):])
		return api.Formula{Op: g.Op, Name: g.Name, Args: args}
	}
	got := roomy(f)
	return got, func() bool {
		for _, tail := range tails {
			if !Same(tail[0], spare) || !Same(tail[1], spare) {
				return false
			}
		}
		return Same(got, before)
	}
}

// scribble overwrites all memory of f, with the spare capacity of its lists.
func scribble(f api.Formula) {
	for i, g := range f.Args[:cap(f.Args)] {
		scribble(g)
		f.Args[:cap(f.Args)][i] = atom("scribbled")
	}
}

// someFormulas are formulas of all kinds, some of them with parts of all kinds.
func someFormulas() []api.Formula {
	simple := []api.Formula{yes, no, a, b, not(a), and(a, b, c), or(b, c), implies(a, b), iff(b, a)}
	l := slices.Clone(simple)
	for _, f := range simple {
		l = append(l, not(f))
		for _, g := range simple {
			l = append(l, and(f, g), or(f, g), implies(f, g), iff(f, g), and(f, g, f), or(g, f, g, a))
		}
	}
	return l
}

// oddFormulas are formulas that are not well-formed, with the error of Validate.
func oddFormulas() map[api.Errno][]api.Formula {
	return map[api.Errno][]api.Formula{
		api.ErrKind: {
			{}, op(9), op(-1), op(math.MinInt), op(math.MaxInt), op(9, a), op(0, a, b), named(op(0), "a"),
			op(api.FTrue, a), op(api.FFalse, a), op(api.FAtom, a), named(op(api.FAtom, b), "a"),
			op(api.FNot), op(api.FNot, a, b), op(api.FAnd), and(a), and(times(7, a)...), op(api.FOr), or(a), or(times(7, a)...),
			op(api.FImplies), op(api.FImplies, a), op(api.FImplies, a, b, c), op(api.FIff), op(api.FIff, a), op(api.FIff, a, b, c),
			and(a, or(b, op(9))), or(yes, not(op(9))), implies(no, op(api.FNot)), not(and(a)),
			and(atom("A"), or(a)), and(or(a), atom("A")), named(and(a), "x"), not(named(op(9), "x")),
		},
		api.ErrSyntax: {
			atom(""), atom("A"), atom("1"), atom("_a"), atom("a b"), atom("~a"), atom("abcdefghijklm"), atom("\xff"),
			named(yes, "a"), named(no, "a"), named(not(a), "a"), named(and(a, b), "a"), named(or(a, b), "A"), named(implies(a, b), "a"), named(iff(a, b), " "),
			and(a, b, not(atom("A"))), or(yes, atom("")), implies(no, named(yes, "a")), not(atom("B")),
		},
	}
}

// P2.1

func TestSizeAndDepth(t *testing.T) {
	for i, x := range []struct {
		formula     api.Formula
		size, depth int
	}{
		{api.Formula{}, 1, 0}, {yes, 1, 0}, {a, 1, 0}, {atom("A"), 1, 0}, {not(a), 2, 1}, {and(a, b, c), 4, 1},
		{implies(not(a), and(a, b, yes)), 7, 2}, {iff(a, not(not(not(b)))), 6, 4}, {and(not(not(a)), b), 5, 3},
		{op(9, op(-1, a), op(api.FTrue, a, a, a)), 7, 2}, {and(times(1000, a)...), 1001, 1},
		{nots(1<<16, a), 1<<16 + 1, 1 << 16}, {op(0, times(1000, and(times(1000, a)...))...), 1001001, 2},
	} {
		if Size(x.formula) != x.size || Depth(x.formula) != x.depth {
			t.Errorf("formula %d: %d, %d", i, Size(x.formula), Depth(x.formula))
		}
	}
}

func TestValidFormulas(t *testing.T) {
	for i, f := range append(someFormulas(), and(times(6, a)...), or(times(6, a)...), atom("abcdefghijkl"), atom("z_9")) {
		if err := Validate(f); err != api.OK {
			t.Errorf("formula %d: %d", i, err)
		}
	}
}

func TestLimitsOfFormulas(t *testing.T) {
	for size := 1; size <= 610; size++ {
		f := sized(size)
		want := api.OK
		if size > 600 {
			want = api.ErrLimit
		}
		if err := Validate(f); Size(f) != size || Depth(f) > 20 || err != want {
			t.Errorf("%d nodes: %d, depth %d, %d instead of %d", size, Size(f), Depth(f), err, want)
		}
	}
	for depth := range 30 {
		want := api.OK
		if depth > 20 {
			want = api.ErrLimit
		}
		if err := Validate(nots(depth, a)); err != want {
			t.Errorf("depth %d: %d instead of %d", depth, err, want)
		}
	}
	for i, f := range []api.Formula{and(times(600, a)...), and(nots(20, op(9)), atom("A")), not(sized(600)), op(9, times(600, op(9))...), nots(1<<16, a), shared(), endless()} {
		if err := Validate(f); err != api.ErrLimit {
			t.Errorf("formula %d: %d", i, err)
		}
	}
	if err := Validate(and(times(599, a)...)); err != api.ErrKind {
		t.Errorf("600 nodes in one conjunction: %d", err)
	}
}

func TestFormulasThatAreNotWellFormed(t *testing.T) {
	for want, l := range oddFormulas() {
		for i, f := range l {
			if err := Validate(f); err != want {
				t.Errorf("formula %d: %d instead of %d", i, err, want)
			}
		}
	}
}

// P2.4

func TestAtoms(t *testing.T) {
	for i, x := range []struct {
		formula api.Formula
		want    []string
	}{
		{yes, nil}, {and(no, yes), nil}, {a, []string{"a"}}, {iff(b, and(a, not(b), a)), []string{"a", "b"}},
		{and(atom("ab"), atom("a_"), atom("a1"), a), []string{"a", "a1", "a_", "ab"}},
		{api.Formula{}, nil}, {named(op(9), "x"), nil}, {named(yes, "x"), nil}, {atom(""), []string{""}},
		{op(99, atom("Z"), op(api.FAtom, b), a), []string{"Z", "a", "b"}}, {named(op(api.FAtom, b), "a"), []string{"b"}},
		{named(op(api.FNot, a, named(op(api.FTrue, b), "y")), "x"), []string{"a", "b"}},
		{nots(1<<16, a), []string{"a"}}, {and(times(1000, a)...), []string{"a"}},
	} {
		if got := Atoms(x.formula); !slices.Equal(got, x.want) {
			t.Errorf("formula %d: %q", i, got)
		}
	}
}

// worlds calls visit with all sets of the atoms a, b and c, in lists that also have other elements.
func worlds(visit func(world []string, p, q, r bool)) {
	for w := range 8 {
		world := []string{"zz", "", "zz"}
		for i, name := range []string{"a", "b", "c"} {
			if w>>i&1 == 1 {
				world = append(world, name, name)
			}
		}
		visit(world, w&1 != 0, w&2 != 0, w&4 != 0)
	}
}

func TestValues(t *testing.T) {
	worlds(func(world []string, p, q, r bool) {
		for i, x := range []struct {
			formula api.Formula
			want    bool
		}{
			{yes, true}, {no, false}, {a, p}, {c, r}, {atom("zz"), true}, {d, false}, {not(a), !p}, {not(not(b)), q},
			{and(a, b), p && q}, {and(a, b, c), p && q && r}, {and(yes, b, c, yes, yes, yes), q && r}, {and(a, no), false},
			{or(a, b), p || q}, {or(a, b, c), p || q || r}, {or(no, no, no, no, no, c), r}, {or(a, yes), true},
			{implies(a, b), !p || q}, {implies(b, a), !q || p}, {iff(a, b), p == q}, {iff(iff(a, b), c), p == q == r},
			{iff(implies(a, or(b, not(c))), and(a, yes)), (!p || q || !r) == p}, {nots(1<<16, a), p}, {nots(1<<16-1, a), !p},
			{or(and(times(6, and(times(6, and(times(6, a)...))...))...), and(times(6, and(times(6, and(times(6, b)...))...))...)), p || q},
		} {
			if got := Eval(x.formula, world); got != x.want {
				t.Errorf("%q: formula %d: %v", world, i, got)
			}
		}
	})
	if Eval(a, nil) || Eval(a, []string{"A", "aa", ""}) || !Eval(not(a), nil) || !Eval(yes, nil) {
		t.Error("only the atoms in the list are true")
	}
}

func TestWhatIsNotWellFormedIsFalse(t *testing.T) {
	everything := []string{"", "A", "1", "_a", "a b", "~a", "abcdefghijklm", "\xff", "a", "b", "c", "x"}
	for want, l := range oddFormulas() {
		for i, f := range l {
			for _, g := range []api.Formula{f, not(f), or(yes, f), or(f, yes), implies(f, f), implies(no, f), iff(f, f), not(and(no, f))} {
				if Eval(g, everything) || Eval(g, nil) {
					t.Errorf("error %d, formula %d", want, i)
				}
			}
		}
	}
}

func TestSubstitute(t *testing.T) {
	f := and(b, implies(a, b))
	odd := named(op(9, a, named(op(api.FAtom, a), "a"), named(yes, "a"), atom("A"), atom("")), "a")
	for i, x := range []struct {
		formula  api.Formula
		name     string
		by, want api.Formula
	}{
		{and(a, b), "b", or(c, d), and(a, or(c, d))},
		{f, "b", or(c, d), and(or(c, d), implies(a, or(c, d)))}, {f, "a", b, and(b, implies(b, b))},
		{f, "x", no, f}, {f, "", no, f}, {f, "b", b, f}, {f, "b", and(a, b), and(and(a, b), implies(a, and(a, b)))},
		{a, "a", iff(a, b), iff(a, b)}, {a, "b", no, a}, {yes, "", no, yes}, {atom("ab"), "a", no, atom("ab")},
		{f, "a", op(9, atom("A")), and(b, implies(op(9, atom("A")), b))}, {f, "a", api.Formula{}, and(b, implies(api.Formula{}, b))},
		{odd, "a", b, named(op(9, b, named(op(api.FAtom, b), "a"), named(yes, "a"), atom("A"), atom("")), "a")},
		{odd, "A", b, named(op(9, a, named(op(api.FAtom, a), "a"), named(yes, "a"), b, atom("")), "a")},
		{odd, "", b, named(op(9, a, named(op(api.FAtom, a), "a"), named(yes, "a"), atom("A"), b), "a")},
		{nots(1<<15, a), "a", nots(1<<15, b), nots(1<<16, b)},
	} {
		if got := Substitute(x.formula, x.name, x.by); !Same(got, x.want) {
			t.Errorf("substitution %d: %v", i, got)
		}
	}
}

func TestSubstitutionActsOnWorlds(t *testing.T) {
	for _, g := range []api.Formula{yes, no, a, not(a), and(a, c), iff(b, c)} {
		for i, f := range someFormulas() {
			got := Substitute(f, "a", g)
			worlds(func(world []string, _, _, _ bool) {
				changed := slices.DeleteFunc(slices.Clone(world), func(s string) bool { return s == "a" })
				if Eval(g, world) {
					changed = append(changed, "a")
				}
				if Eval(got, world) != Eval(f, changed) {
					t.Errorf("formula %d: %q", i, world)
				}
			})
		}
	}
}

func TestSame(t *testing.T) {
	l := append(someFormulas(), oddFormulas()[api.ErrKind]...)
	l = append(l, oddFormulas()[api.ErrSyntax]...)
	for i, f := range l {
		if !Same(f, clone(f)) {
			t.Errorf("formula %d is not the same as its copy", i)
		}
		for k, g := range []api.Formula{op(f.Op+1, f.Args...), named(f, f.Name+"x"), op(f.Op, append(slices.Clone(f.Args), a)...), not(f)} {
			if Same(f, g) || Same(g, f) {
				t.Errorf("formula %d is the same as its change %d", i, k)
			}
		}
	}
	for i, x := range [][2]api.Formula{
		{a, b}, {yes, no}, {and(a, b), and(b, a)}, {and(a, b), or(a, b)}, {and(a, b), and(a, b, a)}, {and(a, b, c), and(a, b)},
		{and(a, and(b, c)), and(and(a, b), c)}, {not(a), not(b)}, {not(not(a)), not(a)}, {nots(1<<16, a), nots(1<<16, b)},
	} {
		if Same(x[0], x[1]) || Same(x[1], x[0]) {
			t.Errorf("pair %d", i)
		}
	}
	if !Same(api.Formula{}, api.Formula{Args: []api.Formula{}}) || !Same(nots(1<<16, a), nots(1<<16, a)) {
		t.Error("equal formulas are not the same")
	}
}

// R2

func TestArgumentsStayAsTheyAre(t *testing.T) {
	for i, f := range append(someFormulas(), op(9, a, op(api.FNot), named(and(b), "x"))) {
		f, kept := frozen(f)
		g, keptToo := frozen(or(c, not(d)))
		names := []string{"b", "a", "b", "spare"}
		Size(f)
		Depth(f)
		Validate(f)
		Format(f)
		Same(f, g)
		Eval(f, names[:2:4])
		if atoms := Atoms(f); len(atoms) > 0 {
			atoms[0] = "scribbled"
		}
		scribble(Substitute(f, "a", g))
		scribble(Substitute(a, "a", f))
		if !kept() || !keptToo() || !slices.Equal(names, []string{"b", "a", "b", "spare"}) {
			t.Errorf("formula %d", i)
		}
	}
}

func TestResultsShareNoMemory(t *testing.T) {
	got := Substitute(and(a, b, a), "a", or(c, not(d)))
	scribble(got.Args[0])
	if !Same(got.Args[1], b) || !Same(got.Args[2], or(c, not(d))) {
		t.Error("the parts of a substitution share memory")
	}
	first, _, _ := Parse("a & (b | c)")
	second, _, _ := Parse("a & (b | c)")
	scribble(first)
	if !Same(second, and(a, or(b, c))) {
		t.Error("two results of Parse share memory")
	}
}
