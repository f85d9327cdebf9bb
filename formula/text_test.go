package formula

import (
	"strings"
	"testing"

	"deliberation/api"
)

// P2.2

func TestFormat(t *testing.T) {
	for _, x := range []struct {
		formula api.Formula
		text    string
	}{
		{yes, "1"}, {no, "0"}, {a, "a"}, {atom("abcdefghijkl"), "abcdefghijkl"}, {not(a), "~a"}, {not(not(yes)), "~~1"},
		{and(a, b, c), "a & b & c"}, {or(a, b, no), "a | b | 0"}, {implies(a, b), "a -> b"}, {iff(a, b), "a <-> b"},
		{not(and(a, b)), "~(a & b)"}, {not(or(a, b)), "~(a | b)"}, {not(implies(a, b)), "~(a -> b)"}, {not(iff(a, b)), "~(a <-> b)"},
		{and(not(a), b), "~a & b"}, {and(a, and(b, c)), "a & (b & c)"}, {and(and(a, b), c), "(a & b) & c"},
		{and(or(a, b), c), "(a | b) & c"}, {and(a, implies(b, c)), "a & (b -> c)"}, {and(iff(a, b), c), "(a <-> b) & c"},
		{or(not(a), b), "~a | b"}, {or(and(a, b), c), "a & b | c"}, {or(a, or(b, c)), "a | (b | c)"}, {or(or(a, b), c), "(a | b) | c"},
		{or(a, implies(b, c)), "a | (b -> c)"}, {or(iff(a, b), c), "(a <-> b) | c"},
		{implies(not(a), not(b)), "~a -> ~b"}, {implies(and(a, b), and(b, c)), "a & b -> b & c"}, {implies(or(a, b), or(b, c)), "a | b -> b | c"},
		{implies(implies(a, b), c), "(a -> b) -> c"}, {implies(a, implies(b, c)), "a -> b -> c"},
		{implies(iff(a, b), c), "(a <-> b) -> c"}, {implies(a, iff(b, c)), "a -> (b <-> c)"},
		{iff(not(a), and(b, c)), "~a <-> b & c"}, {iff(implies(a, b), or(b, c)), "a -> b <-> b | c"}, {iff(or(a, b), implies(b, c)), "a | b <-> b -> c"},
		{iff(iff(a, b), c), "(a <-> b) <-> c"}, {iff(a, iff(b, c)), "a <-> (b <-> c)"},
		{nots(20, a), strings.Repeat("~", 20) + "a"},
	} {
		if got, err := Format(x.formula); err != api.OK || got != x.text {
			t.Errorf("%q: %q, %d", x.text, got, err)
		}
	}
}

func TestFormatOfWhatIsNotValid(t *testing.T) {
	for want, l := range oddFormulas() {
		for i, f := range l {
			if got, err := Format(f); err != want || got != "" {
				t.Errorf("formula %d: %q, %d instead of %d", i, got, err, want)
			}
		}
	}
	for i, f := range []api.Formula{nots(21, a), sized(601), shared(), endless(), and(nots(20, op(9)), atom("A"))} {
		if got, err := Format(f); err != api.ErrLimit || got != "" {
			t.Errorf("formula %d: %q, %d", i, got, err)
		}
	}
}

// longText is a valid formula whose text has n bytes, for n from 13 to some more than MaxText.
func longText(n int) api.Formula {
	return and(longPart((n-3)/2), longPart((n-2)/2))
}

// longPart is a formula whose text has n bytes as a part of a conjunction.
func longPart(n int) api.Formula {
	switch {
	case n <= 12:
		return atom("abcdefghijkl"[:n])
	case n <= 14:
		return nots(n-12, atom("abcdefghijkl"))
	}
	return longText(n - 2)
}

func TestLimitOfTexts(t *testing.T) {
	for n := api.MaxText - 8; n <= api.MaxText+8; n++ {
		f := longText(n)
		if err := Validate(f); err != api.OK || len(text(f)) != n {
			t.Fatalf("the formula with %d bytes has %d, and the error %d", n, len(text(f)), err)
		}
		got, err := Format(f)
		switch {
		case n <= api.MaxText && (err != api.OK || len(got) != n):
			t.Errorf("%d bytes: %d bytes, %d", n, len(got), err)
		case n > api.MaxText && (err != api.ErrLimit || got != ""):
			t.Errorf("%d bytes: %d bytes, %d", n, len(got), err)
		}
		back, at, err := Parse(text(f))
		switch {
		case n <= api.MaxText && (err != api.OK || !Same(back, f)):
			t.Errorf("%d bytes cannot be read: %d", n, err)
		case n > api.MaxText && (err != api.ErrLimit || at != 0 || !Same(back, api.Formula{})):
			t.Errorf("%d bytes are read: %d at %d", n, err, at)
		}
	}
}
