package policy

import (
	"slices"

	"legate/api"
	"legate/term"
)

// Valid tells whether a principal may be.
func Valid(p api.Principal) bool {
	return term.Name(p.Name) && names(p.Allowed) && names(p.Acts) &&
		p.Version >= 1 && p.Version <= lastVersion &&
		p.Life >= 0 && p.Life <= api.MaxTime &&
		len(p.Groups) <= mostGroups
}

// names tells whether these are names, none of them twice, and no more than a list has.
func names(l []string) bool {
	if len(l) > mostNames {
		return false
	}
	for i, n := range l {
		if !term.Name(n) || slices.Contains(l[:i], n) {
			return false
		}
	}
	return true
}

// own is a principal that shares no list with that one.
func own(p api.Principal) api.Principal {
	p.Allowed, p.Acts, p.Groups = slices.Clone(p.Allowed), slices.Clone(p.Acts), slices.Clone(p.Groups)
	return p
}

// put lets a name be in a list, behind the others, or not be in it.
func put(l *[]string, name string, on bool) api.Errno {
	at := slices.Index(*l, name)
	in := at >= 0
	switch {
	case in == on:
		return api.OK
	case in:
		*l = slices.Delete(*l, at, at+1)
	case len(*l) >= mostNames:
		return api.ErrFull
	default:
		*l = append(*l, name)
	}
	return api.OK
}
