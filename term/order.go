package term

import (
	"cmp"
	"slices"

	"legate/api"
)

// Same tells whether two terms are the same.
func Same(a, b api.Term) bool {
	return Order(a, b) == 0
}

// Order is which of two terms comes first.
func Order(a, b api.Term) int {
	return level(0).order(a, b)
}

// level is in how many others the terms stand that are compared.
type level int

func (in level) order(a, b api.Term) int {
	if in > deepest {
		return 0
	}
	if o := heads(a, b); o != 0 {
		return o
	}
	return slices.CompareFunc(a.L, b.L, (in + 1).order)
}

// heads compares all but what is within.
func heads(a, b api.Term) int {
	return cmp.Or(cmp.Compare(a.K, b.K), cmp.Compare(a.S, b.S), cmp.Compare(a.N, b.N))
}
