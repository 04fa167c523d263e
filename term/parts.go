package term

import (
	"iter"
	"slices"

	"legate/api"
)

// deepest is beyond all levels that the document promises something for: a term that holds itself has more, and
// without an end to them nobody would be done with it.
const deepest = 1 << 18

// Size is how many terms a term has.
func Size(t api.Term) int {
	n := 0
	for range parts(t) {
		n++
	}
	return n
}

// Parts are a term, and all in it.
func Parts(t api.Term) []api.Term {
	var l []api.Term
	for _, p := range parts(t) {
		l = append(l, p)
	}
	return l
}

// some tells whether anything in a term is odd.
func some(t api.Term, odd func(in int, p api.Term) bool) bool {
	for in, p := range parts(t) {
		if odd(in, p) {
			return true
		}
	}
	return false
}

// parts tells a term ahead of what is in it, and of each in how many others it stands.
func parts(t api.Term) iter.Seq2[int, api.Term] {
	return func(yield func(int, api.Term) bool) {
		tell(0, t, yield)
	}
}

// tell answers whether more is asked for.
func tell(in int, t api.Term, yield func(int, api.Term) bool) bool {
	if in > deepest {
		return true
	}
	enough := func(p api.Term) bool { return !tell(in+1, p, yield) }
	return yield(in, t) && !slices.ContainsFunc(t.L, enough)
}
