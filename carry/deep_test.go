package carry_test

import (
	"testing"

	"legate/api"
	"legate/term"
)

// texts are the ways in which a text stands in another one, each as deep as a list.
func texts() []func(s string) string {
	return []func(s string) string{
		func(s string) string { return node(4, s) },
		func(s string) string { return node(4, leaf(1, "a"), s) },
		func(s string) string { return sealed(keyBytes(ann, "s"), 2, "0123456789ab", s) },
		func(s string) string { return summed(keyBytes(session, "s"), 3, s) },
	}
}

// eachWay makes a text in n others, by each two of the ways in turn.
func eachWay(n int, s string, do func(s string)) {
	for _, f := range texts() {
		for _, g := range texts() {
			x := s
			for i := range n {
				if i%2 == 0 {
					x = f(x)
				} else {
					x = g(x)
				}
			}
			do(x)
		}
	}
}

// TestHowDeepTermsStand: in 15 and 16 others they are read, and in more they are not.
func TestHowDeepTermsStand(t *testing.T) {
	for _, s := range []string{leaf(1, "a"), leaf(2, number(-1)), leaf(3, keyBytes(web, "s")), node(4)} {
		for n := range 25 {
			eachWay(n, s, func(x string) {
				if n > 16 {
					unpacksNot(t, "too deep", x, "s", keys, api.ErrDeep)
				} else if y, e := unpacked(x); e != api.OK || !term.Valid(y) || mostDeep(y) < n {
					t.Errorf("in %d others: %v", n, e)
				}
			})
		}
	}
}

// TestSealsAndSumsStandAheadOfTheirBodies: such a one in 15 others is read, in 16 others its body is too deep.
func TestSealsAndSumsStandAheadOfTheirBodies(t *testing.T) {
	for i, f := range texts() {
		s := f(leaf(1, "a"))
		eachWay(15, s, func(x string) {
			if y, e := unpacked(x); e != api.OK || !term.Valid(y) || mostDeep(y) != 16 {
				t.Errorf("%d in 15 others: %v", i, e)
			}
		})
		eachWay(16, s, func(x string) { unpacksNot(t, "in 16 others", x, "s", keys, api.ErrDeep) })
		eachWay(17, s, func(x string) { unpacksNot(t, "in 17 others", x, "s", keys, api.ErrDeep) })
	}
}

// mostDeep is in how many others a term's innermost ones stand.
func mostDeep(x api.Term) int {
	n := 0
	for _, y := range x.L {
		n = max(n, 1+mostDeep(y))
	}
	return n
}

// TestDeepComesAheadOfAllElse: a term in 17 others is not looked at, one in 16 is.
func TestDeepComesAheadOfAllElse(t *testing.T) {
	wrong := append(wrongSums(), tell{"no name", noName, api.ErrForm}, tell{"no number", leaf(2, ""), api.ErrForm}, tell{"no key", noKey, api.ErrKey}, tell{"no seal", noSeal, api.ErrSeal},
		tell{"an empty seal", leaf(5, ""), api.ErrForm}, tell{"a seal of an empty body", sealed(keyBytes(ann, "s"), 2, "0123456789ab", ""), api.ErrShort},
		tell{"too many", spelt(numbers(65), "s"), api.ErrForm}, tell{"another tag", leaf(9, ""), api.ErrForm}, tell{"a Node 1", node(1), api.ErrForm}, tell{"bytes 4", leaf(4, ""), api.ErrForm})
	for _, c := range wrong {
		eachWay(15, c.s, func(x string) { unpacksNot(t, c.what+", in 15 others", x, "s", keys, c.want) })
		eachWay(16, c.s, func(x string) { unpacksNot(t, c.what+", in 16 others", x, "s", keys, c.want) })
		eachWay(17, c.s, func(x string) { unpacksNot(t, c.what+", in 17 others", x, "s", keys, api.ErrDeep) })
		eachWay(18, c.s, func(x string) { unpacksNot(t, c.what+", in 18 others", x, "s", keys, api.ErrDeep) })
	}
	// The sum's body is too deep, which comes ahead of the sum.
	eachWay(15, noSum, func(x string) { unpacksNot(t, "no sum, in 15 others", x, "s", keys, api.ErrSum) })
	eachWay(16, noSum, func(x string) { unpacksNot(t, "no sum, in 16 others", x, "s", keys, api.ErrDeep) })
}

// TestDeepNeedsNoKeys where lists alone are around it.
func TestDeepNeedsNoKeys(t *testing.T) {
	for _, s := range []string{leaf(1, "a"), noName, noKey, noSeal, noSum, node(4)} {
		for n := 17; n <= 31; n++ {
			unpacksNot(t, "in lists", textInLists(n, s), "s", nil, api.ErrDeep)
		}
	}
	unpacksNot(t, "a seal in 16 lists", textInLists(16, sealed(keyBytes(ann, "s"), 2, "0123456789ab", leaf(1, "a"))), "s", nil, api.ErrSeal)
	unpacksNot(t, "a sum in 16 lists", textInLists(16, summed(keyBytes(ann, "s"), 2, leaf(1, "a"))), "s", nil, api.ErrDeep)
	unpacksNot(t, "a sum in 15 lists", textInLists(15, summed(keyBytes(ann, "s"), 2, leaf(1, "a"))), "s", nil, api.ErrSum)
}

// TestDepthIsCountedForEachItem: what stands behind a deep one is no deeper.
func TestDepthIsCountedForEachItem(t *testing.T) {
	deep := textInLists(15, leaf(1, "a"))
	y, e := unpacked(node(4, deep, deep, sealed(keyBytes(ann, "s"), 2, "0123456789ab", textInLists(14, leaf(1, "a"))), deep, leaf(1, "a")))
	if e != api.OK || mostDeep(y) != 16 || len(y.L) != 5 {
		t.Error(e)
	}
	unpacksNot(t, "the last one too deep", node(4, deep, deep, textInLists(16, leaf(1, "a"))), "s", keys, api.ErrDeep)
}
