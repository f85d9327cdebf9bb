package world

import (
	"testing"

	"deliberation/api"
	"deliberation/formula"
)

func TestTheoryOfExamples(t *testing.T) {
	for _, x := range []struct {
		voc  []string
		set  uint64
		want string
	}{
		{nil, 0, "0"}, {nil, 1, "1"}, {[]string{}, 1<<64 - 2, "0"}, {nil, 1<<64 - 1, "1"},
		{[]string{"p"}, 0, "0"}, {[]string{"p"}, 1, "~p"}, {[]string{"p"}, 2, "p"}, {[]string{"p"}, 3, "1"},
		{[]string{"p", "q"}, 13, "~p | q"},
		{[]string{"p", "q"}, 12, "q"},
		{[]string{"p", "q"}, 14, "p | q"},
		{[]string{"p", "q"}, 4, "~p & q"},
		{[]string{"p", "q"}, 8, "p & q"},
		{[]string{"p", "q"}, 6, "p & ~q | ~p & q"},
		{[]string{"p", "q"}, 9, "p & q | ~p & ~q"},
		{[]string{"p", "q"}, 0x3F, "1"}, {[]string{"p", "q"}, 0xF0, "0"}, {[]string{"p", "q"}, 0xFFFFFFFFFFFFFFFD, "~p | q"},
		{sixNames, 1 << 63, "a & (b & (c & (d & (e & f))))"},
		{sixNames, 1, "~a & (~b & (~c & (~d & (~e & ~f))))"},
		{sixNames, 0xFFFFFFFF00000000, "f"},
		{sixNames, 0xAAAAAAAAAAAAAAAA, "a"},
		{sixNames, 1<<64 - 1, "1"},
	} {
		f, err := Theory(x.voc, x.set)
		if s, _ := formula.Format(f); err != api.OK || s != x.want {
			t.Errorf("%q, %x: %q, error %d", x.voc, x.set, s, err)
		}
	}
}

// text is the theory of a list of worlds by its definition: as a text, where each part has parentheses. The worlds of a smaller vocabulary are made one by one.
func text(voc []string, worlds []int) string {
	if len(worlds) == 0 {
		return "0"
	}
	if len(worlds) == power(len(voc)) {
		return "1"
	}
	var yes, no []int
	for _, w := range worlds {
		if w%2 == 1 {
			yes = append(yes, (w-1)/2)
		} else {
			no = append(no, w/2)
		}
	}
	a, rest := voc[0], voc[1:]
	t, f := text(rest, yes), text(rest, no)
	switch {
	case t == f:
		return t
	case t == "1" && f == "0":
		return a
	case t == "1":
		return "(" + a + "|" + f + ")"
	case t == "0" && f == "1":
		return "(~" + a + ")"
	case t == "0":
		return "((~" + a + ")&" + f + ")"
	case f == "1":
		return "((~" + a + ")|" + t + ")"
	case f == "0":
		return "(" + a + "&" + t + ")"
	}
	return "((" + a + "&" + t + ")|((~" + a + ")&" + f + "))"
}

func TestTheoryIsTheDefinedFormula(t *testing.T) {
	for n := range api.MaxAtoms + 1 {
		l, same := roomy(n)
		for _, set := range someSets(n) {
			want := parse(t, text(l, Worlds(l, set)))
			for _, more := range junk(n) {
				f, err := Theory(l, set|more)
				if err != api.OK || !formula.Same(f, want) || formula.Validate(f) != api.OK {
					s, _ := formula.Format(f)
					t.Fatalf("%d atoms, %x with %x: %q, error %d", n, set, more, s, err)
				}
			}
			if got, err := Models(l, want); err != api.OK || got != set {
				t.Fatalf("%d atoms, %x: the models are %x, error %d", n, set, got, err)
			}
		}
		if !same() {
			t.Errorf("%d atoms: the vocabulary was changed", n)
		}
	}
}

func TestTheoryOfNoVocabulary(t *testing.T) {
	for _, l := range noVocabularies {
		for _, set := range []uint64{0, 1, 1<<64 - 1} {
			if f, err := Theory(l, set); err != api.ErrRange || !formula.Same(f, api.Formula{}) {
				t.Errorf("%q, %x: %v, error %d", l, set, f, err)
			}
		}
	}
}

// scribble overwrites all memory of f, with the spare capacity of its lists.
func scribble(f api.Formula) {
	l := f.Args[:cap(f.Args)]
	for i, g := range l {
		if g.Name == "scribbled" {
			panic("two lists share memory")
		}
		scribble(g)
		l[i] = api.Formula{Op: api.FAtom, Name: "scribbled"}
	}
}

func TestTheoriesShareNoMemory(t *testing.T) {
	for n := range api.MaxAtoms + 1 {
		for _, set := range someSets(n) {
			f, _ := Theory(voc(n), set)
			g, _ := Theory(voc(n), set)
			before, _ := formula.Format(f)
			scribble(g)
			if after, _ := formula.Format(f); after != before {
				t.Fatalf("%d atoms, %x: two results share memory", n, set)
			}
		}
	}
}
