package world

import (
	"math/rand"
	"slices"
	"strings"
	"testing"

	"deliberation/api"
	"deliberation/formula"
)

// sixNames are the atoms of most vocabularies of the tests.
var sixNames = []string{"a", "b", "c", "d", "e", "f"}

// noVocabularies are lists that are not vocabularies.
var noVocabularies = [][]string{
	{"b", "a"}, {"a", "a"}, {"a", "b", "b"}, {"a", "c", "b"}, {"b", "c", "a"},
	{""}, {"A"}, {"1"}, {"_a"}, {"~a"}, {"a b"}, {"é"}, {"abcdefghijklm"}, {"", "a"}, {"a", "b~"}, {"a", "b", "C"},
	{"a", "b", "c", "d", "e", "f", "g"}, make([]string, 7), make([]string, 1000),
}

// voc is the vocabulary of the first n names.
func voc(n int) []string { return sixNames[:n:n] }

// atomsOf is the list of the atoms that are true in a world.
func atomsOf(voc []string, w int) []string {
	var l []string
	for i, name := range voc {
		if w/power(i)%2 == 1 {
			l = append(l, name)
		}
	}
	return l
}

// power is 2 to the power of n.
func power(n int) int {
	p := 1
	for range n {
		p *= 2
	}
	return p
}

// contains reports whether the set contains the world.
func contains(set uint64, w int) bool {
	for range w {
		set /= 2
	}
	return set%2 == 1
}

// setOf is the set of the worlds of n atoms that pass the test.
func setOf(n int, test func(w int) bool) uint64 {
	set, bit := uint64(0), uint64(1)
	for w := range power(n) {
		if test(w) {
			set += bit
		}
		bit *= 2
	}
	return set
}

// someSets are all sets of worlds of n atoms, or a thousand of them.
func someSets(n int) []uint64 {
	if n <= 3 {
		l := make([]uint64, 1<<power(n))
		for i := range l {
			l[i] = uint64(i)
		}
		return l
	}
	random := rand.New(rand.NewSource(int64(n)))
	every := setOf(n, func(int) bool { return true })
	l := []uint64{0, 1, every, every - 1, every / 2, every/2 + 1, every / 3, every / 5, every / 255}
	for i := range 1000 {
		set := random.Uint64()
		switch i % 3 {
		case 1:
			set &= random.Uint64() & random.Uint64() & random.Uint64()
		case 2:
			set |= random.Uint64() | random.Uint64()
		}
		l = append(l, set&every)
	}
	return l
}

// junk are bits beyond the worlds of n atoms.
func junk(n int) []uint64 {
	every := setOf(n, func(int) bool { return true })
	return []uint64{0, ^every, ^every & 0xAAAAAAAAAAAAAAAA, (every + 1) &^ every, 1 << 63 &^ every}
}

// roomy returns a vocabulary with spare capacity, and a function that reports whether it and the memory behind it are as they were.
func roomy(n int) ([]string, func() bool) {
	l := append(slices.Clone(sixNames[:n]), "spare", "room")
	return l[:n], func() bool { return slices.Equal(l, append(slices.Clone(sixNames[:n]), "spare", "room")) }
}

// some is a formula of random kinds, with these atoms.
func some(random *rand.Rand, names []string, depth int) api.Formula {
	if depth == 0 || random.Intn(6) == 0 {
		k := random.Intn(len(names) + 2)
		if k < len(names) {
			return api.Formula{Op: api.FAtom, Name: names[k]}
		}
		return api.Formula{Op: api.FTrue + k - len(names)}
	}
	f := api.Formula{Op: api.FNot + random.Intn(5)}
	n := 2
	switch f.Op {
	case api.FNot:
		n = 1
	case api.FAnd, api.FOr:
		n = 2 + random.Intn(api.MaxArgs-1)
	}
	for range n {
		f.Args = append(f.Args, some(random, names, depth-1))
	}
	return f
}

func parse(t *testing.T, s string) api.Formula {
	t.Helper()
	f, _, err := formula.Parse(s)
	if err != api.OK {
		t.Fatalf("%q: %d", s, err)
	}
	return f
}

// invalid are formulas with the errors of Models for the vocabulary a, b.
func invalid(t *testing.T) map[api.Errno][]api.Formula {
	deep := parse(t, "z")
	for range api.MaxDepth + 1 {
		deep = api.Formula{Op: api.FNot, Args: []api.Formula{deep}}
	}
	endless := api.Formula{Op: 99, Args: make([]api.Formula, 1)}
	endless.Args[0] = endless
	capital := api.Formula{Op: api.FAtom, Name: "Z"}
	missing := parse(t, "z")
	return map[api.Errno][]api.Formula{
		api.ErrLimit:   {deep, endless, {Args: make([]api.Formula, api.MaxSize)}},
		api.ErrKind:    {{}, {Op: 9}, {Op: -1, Name: "z"}, {Op: api.FAnd, Args: []api.Formula{missing}}, {Op: api.FNot, Args: []api.Formula{{Op: api.FOr, Args: []api.Formula{capital}}}}},
		api.ErrSyntax:  {capital, {Op: api.FAtom}, {Op: api.FTrue, Name: "a"}, {Op: api.FOr, Args: []api.Formula{missing, capital}}},
		api.ErrMissing: {missing, parse(t, "a & c"), parse(t, "c | ~c"), parse(t, "c & 0"), parse(t, "a | 1 | (b -> aa)"), parse(t, "a_"), parse(t, "a & b & (a <-> ~~c)")},
	}
}

func TestVocabularies(t *testing.T) {
	good := [][]string{nil, {}, {"a"}, {"abcdefghijkl"}, {"a", "a1", "a_", "aa", "b"}, {"a9", "a_"}, sixNames, {"p", "q"}, {"abcdefghijkk", "abcdefghijkl"}}
	for _, l := range good {
		if !Valid(l) {
			t.Errorf("%q is not valid", l)
		}
		if got, want := All(l), setOf(len(l), func(int) bool { return true }); got != want {
			t.Errorf("%q: all worlds: %x, not %x", l, got, want)
		}
	}
	for _, l := range noVocabularies {
		if Valid(l) || All(l) != 0 || len(Worlds(l, 1)) != 0 || len(Worlds(l, 1<<64-1)) != 0 {
			t.Errorf("%q counts as a vocabulary", l)
		}
	}
}

func TestAll(t *testing.T) {
	for n, want := range []uint64{1, 3, 15, 255, 65535, 4294967295, 18446744073709551615} {
		l, same := roomy(n)
		if got := All(l); got != want || !same() {
			t.Errorf("%d atoms: %d, %t", n, got, same())
		}
	}
}

func TestWorldsAndSize(t *testing.T) {
	for n := range api.MaxAtoms + 1 {
		l, same := roomy(n)
		for _, set := range someSets(n) {
			var want []int
			for w := range power(n) {
				if contains(set, w) {
					want = append(want, w)
				}
			}
			for _, more := range junk(n) {
				if got := Worlds(l, set|more); !slices.Equal(got, want) {
					t.Fatalf("%d atoms, %x with %x: %v", n, set, more, got)
				}
			}
			if Size(set) != len(want) {
				t.Fatalf("%x: size %d", set, Size(set))
			}
		}
		if !same() {
			t.Errorf("%d atoms: the vocabulary was changed", n)
		}
	}
	for set, want := range map[uint64]int{0: 0, 1: 1, 1 << 63: 1, 1<<63 | 1: 2, 1<<64 - 1: 64, 0xF0F0: 8} {
		if got := Size(set); got != want {
			t.Errorf("%x: size %d, not %d", set, got, want)
		}
	}
}

func TestModelsOfExamples(t *testing.T) {
	l := []string{"p", "q"}
	for s, want := range map[string]uint64{"p -> q": 13, "p": 10, "q": 12, "p <-> q": 9, "~p": 5, "0": 0, "1": 15, "p & q": 8, "p | q": 14, "q -> p": 11} {
		if got, err := Models(l, parse(t, s)); err != api.OK || got != want {
			t.Errorf("%s: %d, error %d", s, got, err)
		}
	}
	for s, want := range map[string]uint64{"0": 0, "1": 1, "~1": 0, "~0": 1, "0 -> 0": 1, "1 <-> 0": 0} {
		if got, err := Models(nil, parse(t, s)); err != api.OK || got != want {
			t.Errorf("without atoms: %s: %d, error %d", s, got, err)
		}
	}
}

func TestModelsAreTheWorldsInWhichItIsTrue(t *testing.T) {
	random := rand.New(rand.NewSource(3))
	for n := range api.MaxAtoms + 1 {
		l, same := roomy(n)
		for range 400 {
			f := some(random, l, 3)
			if formula.Validate(f) != api.OK {
				continue
			}
			want := setOf(n, func(w int) bool { return formula.Eval(f, atomsOf(l, w)) })
			if got, err := Models(l, f); err != api.OK || got != want {
				s, _ := formula.Format(f)
				t.Fatalf("%d atoms: %s: %x, not %x, error %d", n, s, got, want, err)
			}
		}
		if !same() {
			t.Errorf("%d atoms: the vocabulary was changed", n)
		}
	}
}

func TestErrorsOfModels(t *testing.T) {
	for want, formulas := range invalid(t) {
		for i, f := range formulas {
			if set, err := Models(voc(2), f); err != want || set != 0 {
				t.Errorf("error %d, formula %d: %x, error %d", want, i, set, err)
			}
			if set, err := Models([]string{"b", "a"}, f); err != api.ErrRange || set != 0 {
				t.Errorf("error %d, formula %d, no vocabulary: %x, error %d", want, i, set, err)
			}
		}
	}
	for _, l := range noVocabularies {
		if set, err := Models(l, api.Formula{Op: api.FTrue}); err != api.ErrRange || set != 0 {
			t.Errorf("%q: %x, error %d", l, set, err)
		}
	}
	if _, err := Models(nil, parse(t, "a")); err != api.ErrMissing {
		t.Errorf("an atom without a vocabulary: error %d", err)
	}
}

func TestEntails(t *testing.T) {
	random := rand.New(rand.NewSource(4))
	holds := 0
	for n := range api.MaxAtoms + 1 {
		for range 600 {
			f, g := some(random, voc(n), 2), some(random, voc(n), 2)
			want := true
			for w := range power(n) {
				yes := atomsOf(voc(n), w)
				want = want && (!formula.Eval(f, yes) || formula.Eval(g, yes))
			}
			if got, err := Entails(voc(n), f, g); err != api.OK || got != want {
				t.Fatalf("%d atoms: %v, %v: %t, error %d", n, f, g, got, err)
			}
			if want {
				holds++
			}
		}
	}
	if holds < 500 || holds > 3500 {
		t.Errorf("the formulas are no good choice: %d entailments", holds)
	}
}

func TestErrorsOfEntails(t *testing.T) {
	good := parse(t, "a & ~a")
	for want, formulas := range invalid(t) {
		for i, f := range formulas {
			for j, pair := range [][2]api.Formula{{f, good}, {good, f}, {f, {Op: 99}}, {f, f}, {f, parse(t, "z")}} {
				if ok, err := Entails(voc(2), pair[0], pair[1]); err != want || ok {
					t.Errorf("error %d, formula %d, pair %d: %t, error %d", want, i, j, ok, err)
				}
				if ok, err := Entails([]string{"a", "a"}, pair[0], pair[1]); err != api.ErrRange || ok {
					t.Errorf("error %d, formula %d, pair %d, no vocabulary: %t, error %d", want, i, j, ok, err)
				}
			}
		}
	}
	for _, l := range noVocabularies {
		if ok, err := Entails(l, parse(t, "0"), parse(t, "1")); err != api.ErrRange || ok {
			t.Errorf("%q: %t, error %d", l, ok, err)
		}
	}
}

func TestForget(t *testing.T) {
	if got := Forget([]string{"p", "q"}, 8, "q"); got != 10 {
		t.Errorf("the example of the document: %d", got)
	}
	for n := range api.MaxAtoms + 1 {
		l, same := roomy(n)
		for _, set := range someSets(n) {
			for i, name := range append(slices.Clone(l), "", "A", "z", "spare", "~a", strings.Repeat("a", 20)) {
				want := set
				if i < n {
					want = setOf(n, func(w int) bool { return contains(set, w) || contains(set, otherwise(w, i)) })
				}
				for _, more := range junk(n) {
					if got := Forget(l, set|more, name); got != want {
						t.Fatalf("%d atoms, %x with %x without %q: %x, not %x", n, set, more, name, got, want)
					}
				}
			}
		}
		if !same() {
			t.Errorf("%d atoms: the vocabulary was changed", n)
		}
	}
	for _, l := range noVocabularies {
		for _, name := range []string{l[0], l[len(l)-1], "zz"} {
			if got := Forget(l, 1<<64-1, name); got != 0 {
				t.Errorf("%q without %q: %x", l, name, got)
			}
		}
	}
}

// otherwise is the world that differs from w in the atom i alone.
func otherwise(w, i int) int {
	if w/power(i)%2 == 1 {
		return w - power(i)
	}
	return w + power(i)
}
