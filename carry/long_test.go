package carry_test

import (
	"testing"

	"legate/api"
	"legate/term"
)

// TestLongest: what is written with 65536 bytes may be, and with one more it may not.
func TestLongest(t *testing.T) {
	for _, n := range []int{2, 3, 42, 43, 65400, 65535, 65536} {
		packs(t, sized(t, n), "s")
	}
	for _, n := range []int{65537, 65538, 70000, 200000} {
		packsNot(t, "a list", sized(t, n), api.ErrLong)
	}
}

// TestLongestInSealsAndSums: a seal has 49 bytes more than what is sealed, a sum 48 (their tags and lengths with them).
func TestLongestInSealsAndSums(t *testing.T) {
	for _, c := range []struct {
		what string
		f    func(x api.Term) api.Term
		more int
	}{
		{"a seal", func(x api.Term) api.Term { return term.Seal(ann, 2, x) }, 49},
		{"a sum", func(x api.Term) api.Term { return term.Sum(ann, 2, x) }, 48},
		{"a seal in a seal", func(x api.Term) api.Term { return term.Seal(ann, 2, term.Seal(web, 3, x)) }, 98},
		{"a sum in a sum", func(x api.Term) api.Term { return term.Sum(ann, 2, term.Sum(web, 3, x)) }, 96},
		{"a seal in a sum", func(x api.Term) api.Term { return term.Sum(ann, 2, term.Seal(web, 3, x)) }, 97},
		{"a sum in a seal", func(x api.Term) api.Term { return term.Seal(ann, 2, term.Sum(web, 3, x)) }, 97},
		{"a list", func(x api.Term) api.Term { return term.List(x) }, 4},
		{"a list, with others", func(x api.Term) api.Term { return term.List(term.List(), x, one) }, 16},
		{"a seal in a list", func(x api.Term) api.Term { return term.List(term.Seal(ann, 2, x)) }, 53},
		{"a sum in a list", func(x api.Term) api.Term { return term.List(term.Sum(ann, 2, x)) }, 52},
	} {
		fits := c.f(sized(t, api.MaxText-c.more))
		if n := len(mustPack(t, fits, "s")); n != api.MaxText {
			t.Errorf("%s: %d bytes", c.what, n)
		}
		packs(t, fits, "s")
		// All of these but the last can be written by themselves.
		for _, n := range []int{api.MaxText - c.more + 1, api.MaxText - c.more + 2, api.MaxText - 1, api.MaxText, api.MaxText + 1} {
			if n > api.MaxText-c.more {
				packsNot(t, c.what, c.f(sized(t, n)), api.ErrLong)
			}
		}
	}
}

// TestLongAnywhereWithin lays what can't be written first and last, in lists, seals and sums, on many levels.
func TestLongAnywhereWithin(t *testing.T) {
	for _, n := range []int{65500, 65537, 80000} {
		x := sized(t, n)
		for _, f := range kinds() {
			for _, g := range kinds() {
				packsNot(t, "further in", term.List(one, term.Seal(web, 9, f(g(x)))), api.ErrLong)
				packsNot(t, "further in", term.List(term.Sum(web, 9, f(g(x))), one), api.ErrLong)
			}
		}
	}
	half := sized(t, 33000)
	packsNot(t, "two halves", term.List(half, half), api.ErrLong)
	packsNot(t, "two halves, sealed", term.List(term.Seal(ann, 2, half), term.Seal(web, 2, half)), api.ErrLong)
	packsNot(t, "two halves, summed", term.Sum(ann, 2, term.List(half, half)), api.ErrLong)
}

// wide is a list of 64 times the same.
func wide(x api.Term) api.Term {
	l := make([]api.Term, 64)
	for i := range l {
		l[i] = x
	}
	return term.List(l...)
}

// TestLongOfSharedLists: terms that share their lists are far more than there is room for.
func TestLongOfSharedLists(t *testing.T) {
	packsNot(t, "names", wide(wide(wide(wide(term.Of("a"))))), api.ErrLong)
	packsNot(t, "seals", wide(wide(term.Seal(ann, 2, numbers(64)))), api.ErrLong)
	packsNot(t, "sums", wide(wide(term.Sum(ann, 2, numbers(64)))), api.ErrLong)
	packsNot(t, "long seals", wide(term.Seal(ann, 2, sized(t, 60000))), api.ErrLong)
	packsNot(t, "long sums", wide(term.Sum(ann, 2, sized(t, 60000))), api.ErrLong)
	packsNot(t, "sealed", term.Seal(web, 3, wide(wide(wide(one)))), api.ErrLong)
	packsNot(t, "summed", term.Sum(web, 3, wide(wide(wide(one)))), api.ErrLong)
}

func TestNotValidComesAheadOfLong(t *testing.T) {
	long := sized(t, 65537)
	for _, x := range notValid() {
		packsNot(t, "long, and not valid", term.List(long, x), api.ErrArg)
		packsNot(t, "not valid, and long", term.List(x, long), api.ErrArg)
	}
	for what, x := range map[string]api.Term{
		"a list of 65":                   term.List(append(numbers(64).L, long)...),
		"sealed for another use":         term.Seal(ann, 256, long),
		"sealed by what is no key":       term.Seal(one, 2, long),
		"sealed by a key that is none":   term.Seal(term.Key("ann", 0), 2, long),
		"summed for another use":         term.Sum(ann, 0, long),
		"summed by a key that is none":   term.Sum(term.Key("A", 1), 2, long),
		"long within, not valid outside": {K: api.TmSeal, S: "a", N: 2, L: []api.Term{ann, long}},
		"too deep, beside what is long":  term.List(long, inLists(16, one)),
	} {
		packsNot(t, what, x, api.ErrArg)
		packsNot(t, what+", sealed", term.Seal(web, 3, term.List(long, x)), api.ErrArg)
	}
}
