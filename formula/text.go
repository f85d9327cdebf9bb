package formula

import (
	"strings"

	"deliberation/api"
)

// Format: P2.2.
func Format(f api.Formula) (string, api.Errno) {
	if err := Validate(f); err != api.OK {
		return "", err
	}
	s := text(f)
	if len(s) > api.MaxText {
		return "", api.ErrLimit
	}
	return s, api.OK
}

// text returns the text of a valid formula.
func text(f api.Formula) string {
	switch f.Op {
	case api.FTrue:
		return "1"
	case api.FFalse:
		return "0"
	case api.FNot:
		return "~" + part(f.Args[0], 5)
	case api.FAnd:
		return joined(f.Args, " & ", 5)
	case api.FOr:
		return joined(f.Args, " | ", 4)
	case api.FImplies:
		return part(f.Args[0], 3) + " -> " + part(f.Args[1], 2)
	case api.FIff:
		return joined(f.Args, " <-> ", 2)
	}
	return f.Name
}

// joined returns the texts of the arguments l with the sign between them.
func joined(l []api.Formula, sign string, least int) string {
	parts := make([]string, len(l))
	for i, f := range l {
		parts[i] = part(f, least)
	}
	return strings.Join(parts, sign)
}

// part returns the text of an argument, in parentheses if its strength is less than least.
func part(f api.Formula, least int) string {
	if strength(f) < least {
		return "(" + text(f) + ")"
	}
	return text(f)
}

func strength(f api.Formula) int {
	switch f.Op {
	case api.FIff:
		return 1
	case api.FImplies:
		return 2
	case api.FOr:
		return 3
	case api.FAnd:
		return 4
	}
	return 5
}
