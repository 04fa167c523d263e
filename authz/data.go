package authz

import (
	"legate/api"
	"legate/term"
)

// Data is a container's words as a term.
func Data(a api.Auth) api.Term {
	return term.List(term.Of(a.User), numbers(a.Groups), term.Num(a.Origin), term.Row(a.Transited), term.Of(a.Service), flag(a.Forwardable), term.Num(a.To))
}

func numbers(l []int) api.Term {
	row := make([]api.Term, len(l))
	for i, n := range l {
		row[i] = term.Num(n)
	}
	return term.List(row...)
}

func flag(on bool) api.Term {
	if on {
		return term.Num(1)
	}
	return term.Num(0)
}

// words are what a term is Data of; false, if it is Data of none.
func words(t api.Term) (api.Auth, bool) {
	if len(t.L) != 7 {
		return api.Auth{}, false
	}
	p := t.L
	a := api.Auth{User: p[0].S, Origin: p[2].N, Service: p[4].S, Forwardable: p[5].N == 1, To: p[6].N}
	for _, g := range p[1].L {
		a.Groups = append(a.Groups, g.N)
	}
	for _, s := range p[3].L {
		a.Transited = append(a.Transited, s.S)
	}
	// What was picked out looks at a few fields alone: that all others are as they must be is told by what it would be written as.
	return a, term.Same(Data(a), t)
}
