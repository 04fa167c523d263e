package carry_test

import (
	"testing"

	"legate/api"
	"legate/term"
)

// Texts with one error each, of those that a list may have.
var (
	noName  = leaf(1, "A")
	noKey   = leaf(3, "a")
	noSeal  = leaf(5, "\x01")
	noSum   = node(6, leaf(2, number(1)), leaf(1, "a"), leaf(7, ""))
	tooDeep = textInLists(17, leaf(1, "a"))
)

// textInLists is a text in n lists.
func textInLists(n int, s string) string {
	for range n {
		s = node(4, s)
	}
	return s
}

// TestTheFirstOfAListCounts: its items' errors are told in their order.
func TestTheFirstOfAListCounts(t *testing.T) {
	wrong := []tell{{"no name", noName, api.ErrForm}, {"no key", noKey, api.ErrKey}, {"no seal", noSeal, api.ErrSeal}, {"no sum", noSum, api.ErrSum}, {"too deep", tooDeep, api.ErrDeep}}
	for _, a := range wrong {
		for _, b := range wrong {
			what := a.what + ", and then " + b.what
			refuse(t, []tell{
				{what, node(4, a.s, b.s), a.want},
				{what, node(4, leaf(1, "a"), a.s, leaf(1, "b"), b.s), a.want},
				{what, node(4, node(4, leaf(1, "a"), a.s), b.s), a.want},
				{what, node(4, a.s, node(4, b.s)), a.want},
				{what, node(4, summed(keyBytes(ann, "s"), 1, a.s), b.s), a.want},
				{what, node(4, sealed(keyBytes(ann, "s"), 1, "0123456789ab", a.s), b.s), a.want},
				{what, node(4, a.s, sealed(keyBytes(ann, "s"), 1, "0123456789ab", b.s)), a.want},
			})
		}
	}
}

func TestWireComesAheadOfTerms(t *testing.T) {
	for _, s := range []string{noName, noKey, noSeal, noSum, tooDeep, spelt(numbers(65), "s"), node(6), leaf(9, "")} {
		refuse(t, []tell{
			{"more behind it", s + "\x00", api.ErrRest},
			{"one byte less", s[:len(s)-1], api.ErrShort},
			{"a digit 0 ahead, behind it", node(4, s, "\x01\x80\x01a"), api.ErrForm},
			{"a list with one byte less", node(4, s, s)[:2*len(s)], api.ErrShort},
			{"in a seal, with more behind it", sealed(keyBytes(ann, "s"), 1, "0123456789ab", s+"\x00"), api.ErrRest},
			{"in a seal, one byte less", sealed(keyBytes(ann, "s"), 1, "0123456789ab", s[:len(s)-1]), api.ErrShort},
		})
	}
}

// TestTooManyComeAheadOfTheirErrors: how many there are is told without a look at them.
func TestTooManyComeAheadOfTheirErrors(t *testing.T) {
	for _, s := range []string{noKey, noSeal, noSum} {
		for _, n := range []int{65, 66, 200} {
			first, last := make([]string, n), make([]string, n)
			for i := range n {
				first[i], last[i] = leaf(1, "a"), leaf(1, "a")
			}
			first[0], last[n-1] = s, s
			refuse(t, []tell{{"too many, the first one wrong", node(4, first...), api.ErrForm}, {"too many, the last one wrong", node(4, last...), api.ErrForm}})
		}
	}
}

// TestSumsInOrder: what a sum is made of comes first, then its body, and then the sum.
func TestSumsInOrder(t *testing.T) {
	use, base := leaf(2, number(2)), keyBytes(ann, "s")
	for _, c := range []tell{{"no key", noKey, api.ErrKey}, {"no seal", noSeal, api.ErrSeal}, {"no name", noName, api.ErrForm}, {"another tag", leaf(9, ""), api.ErrForm}, {"too many", spelt(numbers(65), "s"), api.ErrForm}, {"too deep", tooDeep, api.ErrDeep}} {
		refuse(t, []tell{
			{"holds, of " + c.what, summed(base, 2, c.s), c.want},
			{"holds not, of " + c.what, node(6, use, c.s, leaf(7, "")), c.want},
			{"no bytes 7, of " + c.what, node(6, use, c.s, leaf(8, "")), api.ErrForm},
			{"first 7 bytes, of " + c.what, node(6, leaf(2, number(2)[1:]), c.s, leaf(7, "")), api.ErrForm},
			{"first a number of 0, of " + c.what, node(6, leaf(2, number(0)), c.s, leaf(7, "")), api.ErrForm},
			{"first a number of 256, of " + c.what, summed(base, 256, c.s), api.ErrForm},
			{"four items, of " + c.what, node(6, use, c.s, leaf(7, ""), use), api.ErrForm},
			{"two items, of " + c.what, node(6, use, c.s), api.ErrForm},
		})
	}
	refuse(t, []tell{
		{"a sum of a sum: the inner one's form", node(6, use, node(6), leaf(7, "")), api.ErrForm},
		{"a sum that holds of one that does not", summed(base, 2, noSum), api.ErrSum},
		{"a sum that holds not of one that does", node(6, use, summed(base, 2, leaf(1, "a")), leaf(7, "")), api.ErrSum},
	})
}

// TestSealsInOrder: its first byte, then whether it opens, then its body.
func TestSealsInOrder(t *testing.T) {
	base := keyBytes(ann, "s")
	for _, body := range []string{"", "\x00\x00", noName, noKey, noSeal, noSum, tooDeep} {
		other := sealed(keyBytes(term.Key("ann", 2), "s"), 2, "0123456789ab", body)
		zero := leaf(5, "\x00"+sealText(base, 2, "0123456789ab", body))
		refuse(t, []tell{{"nobody opens it", other, api.ErrSeal}, {"first byte 0", zero, api.ErrForm}})
	}
}

// TestTheKeyThatOpensCounts: what another key says of it is not asked any more.
func TestTheKeyThatOpensCounts(t *testing.T) {
	for _, ks := range orders(keys) {
		unpacksNot(t, "a body that is no name", sealed(keyBytes(ann, "s"), 2, "0123456789ab", noName), "s", ks, api.ErrForm)
		unpacksNot(t, "a body that is no key", sealed(keyBytes(web, "s"), 2, "0123456789ab", noKey), "s", ks, api.ErrKey)
		unpacksNot(t, "an empty body", sealed(keyBytes(session, "s"), 2, "0123456789ab", ""), "s", ks, api.ErrShort)
	}
}
