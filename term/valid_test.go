package term_test

import (
	"math"
	"strings"
	"testing"

	"legate/api"
	"legate/term"
)

func valid(t *testing.T, what string, x api.Term, want bool) {
	t.Helper()
	if got := term.Valid(x); got != want {
		t.Errorf("%s: %v", what, got)
	}
}

// some numbers, and texts that are names and are not, wherever one is asked for.
var (
	numbers  = []int{0, 1, -1, 2, 9, 10, 64, 65, 254, 255, 256, 257, 1 << 31, -1 << 31, math.MaxInt, math.MinInt, math.MaxInt - 1, math.MinInt + 1}
	names    = []string{"a", "ann", "12", "-3", ".", "/", "host/web.example", strings.Repeat("z", 40)}
	notNames = []string{"A", "a b", "é", "\xff", "a\x00", strings.Repeat("z", 41), strings.Repeat("z", 65536)}
)

func TestValidNames(t *testing.T) {
	for _, s := range names {
		valid(t, s, api.Term{K: api.TmName, S: s}, true)
		valid(t, s+" with an empty list", api.Term{K: api.TmName, S: s, L: []api.Term{}}, true)
		valid(t, s+" with a list", api.Term{K: api.TmName, S: s, L: []api.Term{term.Of("a")}}, false)
		for _, n := range numbers {
			valid(t, s+" with a number", api.Term{K: api.TmName, S: s, N: n}, n == 0)
		}
	}
	for _, s := range append(notNames, "") {
		valid(t, s, api.Term{K: api.TmName, S: s}, false)
	}
	valid(t, "no name at all", api.Term{}, false)
}

func TestValidNumbers(t *testing.T) {
	for _, n := range numbers {
		valid(t, "a number", api.Term{K: api.TmNum, N: n}, true)
		valid(t, "a number with an empty list", api.Term{K: api.TmNum, N: n, L: []api.Term{}}, true)
		valid(t, "a number with a list", api.Term{K: api.TmNum, N: n, L: []api.Term{term.Num(1)}}, false)
		for _, s := range append(names, notNames...) {
			valid(t, "a number with a text", api.Term{K: api.TmNum, N: n, S: s}, false)
		}
	}
}

func TestValidKeys(t *testing.T) {
	for _, n := range numbers {
		valid(t, "a session's key", api.Term{K: api.TmKey, N: n}, n >= 1)
		valid(t, "a key with a list", api.Term{K: api.TmKey, S: "ann", N: n, L: []api.Term{term.Num(1)}}, false)
		valid(t, "a session's key with a list", api.Term{K: api.TmKey, N: n, L: []api.Term{term.Num(1)}}, false)
		for _, s := range names {
			valid(t, s, api.Term{K: api.TmKey, S: s, N: n}, n >= 1)
		}
		for _, s := range notNames {
			valid(t, s, api.Term{K: api.TmKey, S: s, N: n}, false)
		}
	}
}

func TestValidLists(t *testing.T) {
	for _, n := range []int{0, 1, 2, 63, 64, 65, 66, 128, 256, 320, 1 << 16} {
		l := make([]api.Term, n)
		for i := range l {
			l[i] = term.Num(i)
		}
		valid(t, "a list", api.Term{K: api.TmList, L: l}, n <= 64)
		valid(t, "a list with a text", api.Term{K: api.TmList, L: l, S: "a"}, false)
		valid(t, "a list with a number", api.Term{K: api.TmList, L: l, N: 1}, false)
		valid(t, "a list with a number below 0", api.Term{K: api.TmList, L: l, N: -1}, false)
		valid(t, "a list in a list", term.List(term.List(l...)), n <= 64)
	}
	valid(t, "many lists", term.List(full(64), full(64), full(64)), true)
	valid(t, "a list of too many, last", term.List(full(64), full(64), full(65)), false)
}

// full is a list of that many numbers.
func full(n int) api.Term {
	l := make([]api.Term, n)
	for i := range l {
		l[i] = term.Num(-i)
	}
	return term.List(l...)
}

func TestValidSealsAndSums(t *testing.T) {
	key, body := term.Key("ann", 1), term.Row([]string{"a", "b"})
	for _, k := range []api.TermKind{api.TmSeal, api.TmSum} {
		for _, n := range numbers {
			valid(t, "by its use", api.Term{K: k, N: n, L: []api.Term{key, body}}, n >= 1 && n <= 255)
			valid(t, "with a text", api.Term{K: k, N: n, S: "a", L: []api.Term{key, body}}, false)
		}
		for n := range 257 {
			valid(t, "by its use", api.Term{K: k, N: n, L: []api.Term{term.Key("", 7), body}}, n >= 1 && n <= 255)
		}
		for i, l := range [][]api.Term{nil, {}, {key}, {key, body, body}, {key, key, key}, {key, body, body, body}, {body, key}, {body, body}} {
			if term.Valid(api.Term{K: k, N: 2, L: l}) {
				t.Errorf("kind %d, list %d", k, i)
			}
		}
		for i, first := range []api.Term{term.Of("a"), term.Num(1), term.List(), term.List(key), term.Seal(key, 1, key), term.Sum(key, 1, key), {}, {K: 9}, {K: -1}} {
			if term.Valid(api.Term{K: k, N: 2, L: []api.Term{first, body}}) {
				t.Errorf("kind %d, first one %d", k, i)
			}
		}
		for i, in := range []api.Term{key, term.Num(0), term.Of("a"), term.List(), term.Seal(key, 1, key), term.Sum(key, 1, key)} {
			if !term.Valid(api.Term{K: k, N: 2, L: []api.Term{key, in}}) {
				t.Errorf("kind %d, body %d", k, i)
			}
		}
	}
}

func TestKindsThatThereAreNot(t *testing.T) {
	for _, k := range []api.TermKind{-1, -2, 6, 7, 99, 256, 257, 260, math.MaxInt, math.MinInt, 1 << 32, 1<<32 + 3} {
		for _, x := range []api.Term{{K: k}, {K: k, S: "a"}, {K: k, N: 1}, {K: k, S: "a", N: 1}, {K: k, L: []api.Term{term.Key("a", 1), term.Num(1)}, N: 2}} {
			valid(t, "a kind that there is not", x, false)
		}
	}
}

// oddities are one of each thing that makes a term odd, and nothing else.
func oddities() []api.Term {
	key, one := term.Key("ann", 1), term.Num(1)
	return []api.Term{
		{}, {K: api.TmName, S: "A"}, {K: api.TmName, S: "a", N: 1}, {K: api.TmName, S: "a", L: []api.Term{one}},
		{K: api.TmNum, S: "a"}, {K: api.TmNum, L: []api.Term{one}},
		{K: api.TmKey}, {K: api.TmKey, N: -1}, {K: api.TmKey, N: 1, S: "A"}, {K: api.TmKey, N: 1, L: []api.Term{one}},
		{K: api.TmList, S: "a"}, {K: api.TmList, N: 1}, full(65),
		term.Seal(key, 0, one), term.Seal(key, 256, one), term.Seal(one, 1, one), {K: api.TmSeal, N: 1, L: []api.Term{key}}, {K: api.TmSeal, N: 1, S: "a", L: []api.Term{key, one}},
		term.Sum(key, 0, one), term.Sum(key, 256, one), term.Sum(one, 1, one), {K: api.TmSum, N: 1, L: []api.Term{key, one, one}}, {K: api.TmSum, N: 1, S: "a", L: []api.Term{key, one}},
		{K: -1}, {K: 6},
	}
}

// TestOddAnywhereWithin lays each oddity first, amid and last, in lists, seals, sums and their keys, on many levels.
func TestOddAnywhereWithin(t *testing.T) {
	key, one := term.Key("ann", 1), term.Num(1)
	around := []func(x api.Term) api.Term{
		func(x api.Term) api.Term { return term.List(x) },
		func(x api.Term) api.Term { return term.List(x, one, one) },
		func(x api.Term) api.Term { return term.List(one, x, one) },
		func(x api.Term) api.Term { return term.List(one, one, x) },
		func(x api.Term) api.Term { return term.List(term.List(), term.List(one), term.List(one, x), one) },
		func(x api.Term) api.Term { return term.Seal(key, 2, x) },
		func(x api.Term) api.Term { return term.Sum(key, 2, x) },
		func(x api.Term) api.Term { return term.Seal(key, 2, term.List(one, term.Sum(key, 3, x))) },
	}
	for i, x := range oddities() {
		for k, f := range around {
			for y, n := x, 0; n < 4; n++ {
				y = f(y)
				if term.Valid(y) {
					t.Errorf("%d in %d, %d times", i, k, n)
				}
			}
			if !term.Valid(f(one)) {
				t.Errorf("nothing odd in %d", k)
			}
		}
	}
	for _, k := range []api.Term{{K: api.TmKey}, {K: api.TmKey, N: 1, S: "A"}, {K: api.TmKey, N: 1, L: []api.Term{one}}} {
		valid(t, "an odd key in a seal", term.Seal(k, 2, one), false)
		valid(t, "an odd key in a sum", term.Sum(k, 2, one), false)
		valid(t, "an odd key further in", term.List(one, term.Seal(key, 2, term.Sum(k, 2, one))), false)
	}
}

// TestHowDeepTermsStand: in 15 and in 16 others, but not in 17.
func TestHowDeepTermsStand(t *testing.T) {
	key, one := term.Key("ann", 1), term.Num(1)
	around := []func(x api.Term) api.Term{
		func(x api.Term) api.Term { return term.List(x) },
		func(x api.Term) api.Term { return term.List(one, term.List(), x, one) },
		func(x api.Term) api.Term { return term.Seal(key, 2, x) },
		func(x api.Term) api.Term { return term.Sum(key, 2, x) },
	}
	for i, f := range around {
		for k, g := range around {
			for n := range 40 {
				x := one
				for m := range n {
					if m%2 == 0 {
						x = f(x)
					} else {
						x = g(x)
					}
				}
				// Where a list has another one in it, beside what it goes on with, that one stands as deep: it is no deeper.
				if got := term.Valid(x); got != (n <= 16) {
					t.Errorf("%d and %d: in %d others: %v", i, k, n, got)
				}
			}
		}
	}
	inList := one
	for range 15 {
		inList = term.List(inList)
	}
	valid(t, "16 levels", term.List(one, inList), true)
	valid(t, "a key in 16 others", nested(15, term.Seal(key, 1, one)), true)
	valid(t, "a key in 17 others", nested(16, term.Seal(key, 1, one)), false)
	valid(t, "an empty list in 16 others", nested(16, term.List()), true)
	valid(t, "an empty list in 17 others", nested(17, term.List()), false)
	valid(t, "too deep, first", term.List(nested(16, one), one), false)
	valid(t, "too deep, last", term.List(one, nested(16, one)), false)
}

// nested is a term in that many lists.
func nested(n int, x api.Term) api.Term {
	for range n {
		x = term.List(x)
	}
	return x
}
