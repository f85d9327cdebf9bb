package literal

import (
	"math"
	"slices"
	"strings"
	"testing"

	"deliberation/api"
)

func pos(name string) api.Literal { return api.Literal{Name: name} }
func neg(name string) api.Literal { return api.Literal{Neg: true, Name: name} }

// isName says what a name is in other words than ValidName does.
func isName(s string) bool {
	const letters, more = "abcdefghijklmnopqrstuvwxyz", "0123456789_"
	return len(s) >= 1 && len(s) <= 12 && strings.Contains(letters, s[:1]) && strings.Trim(s, letters+more) == ""
}

// P1.1

func TestNamesAreToldApart(t *testing.T) {
	for _, s := range []string{"a", "z", "p", "a0", "z9_", "a_", "a__", "abcdefghijkl", "a23456789012"} {
		if !ValidName(s) {
			t.Errorf("%q is a name", s)
		}
	}
	for _, s := range []string{
		"", "_", "_a", "0", "9a", "A", "aB", "Z", "a b", " a", "a ", "a-b", "a~", "~a", "~", "a\n", "a\x00", "\x00",
		"é", "aé", "a\xff", "\xff", "abcdefghijklm", "a234567890123", strings.Repeat("a", 100000),
	} {
		if ValidName(s) {
			t.Errorf("%q is no name", s)
		}
	}
}

func TestEachByteOfAName(t *testing.T) {
	for c := 0; c <= math.MaxUint8; c++ {
		b := string([]byte{byte(c)})
		for _, s := range []string{b, b + "a", "a" + b, "a" + b + "a", "abcdefghijk" + b, b + "bcdefghijkl", "abcdefghijkl" + b} {
			if ValidName(s) != isName(s) {
				t.Errorf("%q: %v", s, ValidName(s))
			}
			if Valid(pos(s)) != isName(s) || Valid(neg(s)) != isName(s) {
				t.Errorf("literal %q", s)
			}
		}
	}
}

func TestFormat(t *testing.T) {
	for _, x := range []struct {
		literal api.Literal
		text    string
	}{
		{pos("p"), "p"},
		{neg("p"), "~p"},
		{pos("abcdefghijkl"), "abcdefghijkl"},
		{neg("abcdefghijkl"), "~abcdefghijkl"},
		{pos("a_1"), "a_1"},
		{pos(""), ""},
		{neg(""), ""},
		{pos("~p"), ""},
		{neg("P"), ""},
		{pos("1"), ""},
		{neg("abcdefghijklm"), ""},
	} {
		if got := Format(x.literal); got != x.text {
			t.Errorf("%v: %q instead of %q", x.literal, got, x.text)
		}
	}
}

func TestParse(t *testing.T) {
	for _, x := range []struct {
		text    string
		literal api.Literal
	}{
		{"p", pos("p")},
		{"~p", neg("p")},
		{"z9_", pos("z9_")},
		{"abcdefghijkl", pos("abcdefghijkl")},
		{"~abcdefghijkl", neg("abcdefghijkl")},
	} {
		got, err := Parse(x.text)
		if err != api.OK || got != x.literal {
			t.Errorf("%q: %v, %d", x.text, got, err)
		}
	}
	for _, s := range []string{
		"", "~", "~~", "~~p", "P", "~P", "p~", "~p~", " p", "p ", "~ p", " ~p", "1", "~1", "_", "~_", "-p", "¬p", "p,q",
		"abcdefghijklm", "~abcdefghijklm", "p\n", "p\x00", "~\xff", strings.Repeat("~", 100000),
	} {
		got, err := Parse(s)
		if err != api.ErrSyntax || got != (api.Literal{}) {
			t.Errorf("%q: %v, %d", s, got, err)
		}
	}
}

func TestTextsAndValidLiteralsCorrespond(t *testing.T) {
	for _, name := range []string{"p", "q1", "a_b_c", "z", "abcdefghijkl", "x00000000000"} {
		for _, x := range []api.Literal{pos(name), neg(name)} {
			back, err := Parse(Format(x))
			if err != api.OK || back != x {
				t.Errorf("%v: %v, %d", x, back, err)
			}
		}
	}
}

// P1.2

func TestCompare(t *testing.T) {
	ascending := []api.Literal{
		pos(""), neg(""), pos("\x00"), neg("\x00"), pos("0"), pos("B"), neg("B"), neg("_"), pos("a"), neg("a"),
		pos("a1"), neg("a1"), pos("aB"), pos("a_"), neg("a_"), pos("ab"), pos("b"), neg("b"), pos("~"), neg("~"),
		pos("\x80"), pos("é"), neg("é"), pos("\xff"),
	}
	for i, a := range ascending {
		for k, b := range ascending {
			want := 0
			switch {
			case i < k:
				want = -1
			case i > k:
				want = 1
			}
			if got := Compare(a, b); got != want {
				t.Errorf("%q %v, %q %v: %d instead of %d", a.Name, a.Neg, b.Name, b.Neg, got, want)
			}
		}
	}
}

func TestComplement(t *testing.T) {
	for _, name := range []string{"p", "", "P", "~p", "a b", "\xff", "abcdefghijklm"} {
		if Complement(pos(name)) != neg(name) || Complement(neg(name)) != pos(name) {
			t.Errorf("%q", name)
		}
	}
}

// P1.3

// unchanged calls check with l, with other literals in the spare capacity behind it, and sees that none of them changes.
func unchanged(t *testing.T, l []api.Literal, check func([]api.Literal)) {
	t.Helper()
	roomy := make([]api.Literal, 0, len(l)+3)
	roomy = append(roomy, l...)
	roomy = append(roomy, neg("z"), pos("a"), pos("a"))
	before := slices.Clone(roomy)
	check(roomy[:len(l)])
	if !slices.Equal(roomy, before) {
		t.Errorf("the argument %v became %v", before, roomy)
	}
}

func TestNormal(t *testing.T) {
	for _, x := range []struct{ list, want []api.Literal }{
		{nil, nil},
		{[]api.Literal{}, nil},
		{[]api.Literal{pos("p")}, []api.Literal{pos("p")}},
		{[]api.Literal{pos("q"), neg("p"), pos("q")}, []api.Literal{neg("p"), pos("q")}},
		{[]api.Literal{pos("q"), neg("p"), pos("p")}, []api.Literal{pos("p"), neg("p"), pos("q")}},
		{[]api.Literal{neg("p"), neg("p"), neg("p")}, []api.Literal{neg("p")}},
		{[]api.Literal{pos("p"), neg("p"), pos("p"), neg("p")}, []api.Literal{pos("p"), neg("p")}},
		{[]api.Literal{pos("a"), pos("P"), neg(""), pos(""), neg("")}, []api.Literal{pos(""), neg(""), pos("P"), pos("a")}},
	} {
		unchanged(t, x.list, func(l []api.Literal) {
			if got := Normal(l); !slices.Equal(got, x.want) {
				t.Errorf("%v: %v", x.list, got)
			}
		})
	}
}

func TestNormalOfAnyOrderAndRepetition(t *testing.T) {
	want := []api.Literal{pos(""), neg("B"), pos("p"), neg("p"), neg("q"), pos("r")}
	for shift := range want {
		turned := slices.Concat(want[shift:], want[:shift], want[:shift])
		slices.Reverse(turned[shift:])
		if got := Normal(turned); !slices.Equal(got, want) {
			t.Errorf("shift %d: %v", shift, got)
		}
	}
}

func TestResultsAreNewMemory(t *testing.T) {
	for _, list := range [][]api.Literal{{pos("q")}, {pos("p"), pos("q")}, {pos("q"), pos("p"), pos("q")}} {
		unchanged(t, list, func(l []api.Literal) {
			got := Normal(l)
			full := got[:cap(got)]
			for i := range full {
				full[i] = neg("changed")
			}
		})
		unchanged(t, list, func(l []api.Literal) {
			first, second := Names(l), Names(l)
			first[0] = "changed"
			if second[0] == "changed" {
				t.Errorf("%v: the results share memory", l)
			}
		})
	}
}

func TestHas(t *testing.T) {
	list := []api.Literal{pos("q"), neg("p"), pos("q"), neg(""), pos("A b")}
	for _, x := range list {
		if !Has(list, x) {
			t.Errorf("%v is in the list", x)
		}
	}
	for _, x := range []api.Literal{neg("q"), pos("p"), pos(""), neg("A b"), pos("r"), pos("Q"), {}} {
		if Has(list, x) {
			t.Errorf("%v is not in the list", x)
		}
	}
	if Has(nil, api.Literal{}) {
		t.Error("nothing is in an empty list")
	}
}

func TestConsistent(t *testing.T) {
	for _, x := range []struct {
		list []api.Literal
		want bool
	}{
		{nil, true},
		{[]api.Literal{pos("p")}, true},
		{[]api.Literal{neg("p"), neg("p")}, true},
		{[]api.Literal{pos("p"), pos("p"), neg("q")}, true},
		{[]api.Literal{pos("p"), pos("q"), neg("p")}, false},
		{[]api.Literal{neg("p"), pos("p")}, false},
		{[]api.Literal{pos("p"), neg("p")}, false},
		{[]api.Literal{pos("a"), pos("b"), neg("c"), pos("d"), neg("d")}, false},
		{[]api.Literal{pos("p"), neg("P"), neg("p1")}, true},
		{[]api.Literal{neg(""), pos("")}, false},
		{[]api.Literal{neg("A b"), pos("q"), pos("A b")}, false},
		{[]api.Literal{pos("~p"), pos("p")}, true},
	} {
		unchanged(t, x.list, func(l []api.Literal) {
			if got := Consistent(l); got != x.want {
				t.Errorf("%v: %v", l, got)
			}
		})
	}
}

func TestNames(t *testing.T) {
	for _, x := range []struct {
		list []api.Literal
		want []string
	}{
		{nil, nil},
		{[]api.Literal{neg("p")}, []string{"p"}},
		{[]api.Literal{neg("q"), pos("p"), pos("q"), neg("p")}, []string{"p", "q"}},
		{[]api.Literal{pos("b"), neg("a"), pos("a_"), neg("a1"), neg("B")}, []string{"B", "a", "a1", "a_", "b"}},
		{[]api.Literal{neg("a"), pos(""), neg(""), pos("~a")}, []string{"", "a", "~a"}},
	} {
		unchanged(t, x.list, func(l []api.Literal) {
			if got := Names(l); !slices.Equal(got, x.want) {
				t.Errorf("%v: %q", l, got)
			}
		})
	}
}
