package term_test

import (
	"math/rand"

	"legate/api"
	"legate/term"
)

// byChance makes a term of whatever fields, mostly odd, of at most that many levels.
func byChance(r *rand.Rand, deep int) api.Term {
	texts := []string{"", "a", "b", "ab", "12", "-3", "A", "\xff", "\x00", "a b", "key(a 1)"}
	x := api.Term{K: api.TermKind(r.Intn(9) - 1), S: texts[r.Intn(len(texts))], N: r.Intn(5) - 2}
	if deep > 0 {
		for range r.Intn(4) {
			x.L = append(x.L, byChance(r, deep-1))
		}
	}
	return x
}

// validByChance makes a valid term, of at most that many levels.
func validByChance(r *rand.Rand, deep int) api.Term {
	texts := []string{"a", "b", "ab", "key", "seal", "a-1", "1.2", "01", "-", "-0", "1-"}
	kinds := 3
	if deep > 0 {
		kinds = 6
	}
	key := func() api.Term { return term.Key([]string{"", "a", "b", "12"}[r.Intn(4)], 1+r.Intn(3)) }
	switch api.TermKind(r.Intn(kinds)) {
	case api.TmName:
		return term.Of(texts[r.Intn(len(texts))])
	case api.TmNum:
		return term.Num(r.Intn(7) - 3)
	case api.TmKey:
		return key()
	case api.TmSeal:
		return term.Seal(key(), 1+r.Intn(3), validByChance(r, deep-1))
	case api.TmSum:
		return term.Sum(key(), 1+r.Intn(3), validByChance(r, deep-1))
	}
	var l []api.Term
	for range r.Intn(4) {
		l = append(l, validByChance(r, deep-1))
	}
	return term.List(l...)
}

// copied is a term that shares no list with it.
func copied(x api.Term) api.Term {
	y := x
	y.L = nil
	for _, p := range x.L {
		y.L = append(y.L, copied(p))
	}
	return y
}

// alike tells whether two terms are the same in each field, by the plainest way.
func alike(a, b api.Term) bool {
	if a.K != b.K || a.S != b.S || a.N != b.N || len(a.L) != len(b.L) {
		return false
	}
	for i := range a.L {
		if !alike(a.L[i], b.L[i]) {
			return false
		}
	}
	return true
}
