package term_test

import (
	"math/rand"
	"slices"
	"strings"
	"testing"

	"legate/api"
	"legate/term"
)

// holds holds that a term's parts are just these, by their texts, and that Size counts them.
func holds(t *testing.T, x api.Term, want ...string) {
	t.Helper()
	var got []string
	for _, p := range term.Parts(x) {
		got = append(got, term.Text(p))
	}
	if !slices.Equal(got, want) {
		t.Errorf("%q, not %q", got, want)
	}
	if n := term.Size(x); n != len(want) {
		t.Errorf("%s: size %d, not %d", term.Text(x), n, len(want))
	}
}

func TestPartsInTheirOrder(t *testing.T) {
	key := term.Key("ann", 1)
	holds(t, term.Of("a"), "a")
	holds(t, term.Num(7), "7")
	holds(t, key, "key(ann 1)")
	holds(t, term.List(), "[]")
	holds(t, term.Row([]string{"a", "b", "c"}), "[a b c]", "a", "b", "c")
	holds(t, term.Seal(key, 2, term.List(term.Of("x"), term.Num(-3))), "seal(key(ann 1) 2 [x -3])", "key(ann 1)", "[x -3]", "x", "-3")
	holds(t, term.Sum(key, 3, term.Of("x")), "sum(key(ann 1) 3 x)", "key(ann 1)", "x")
	holds(t, term.List(term.List(term.Of("a"), term.List(term.Of("b"))), term.Of("c"), term.List(term.Of("d"))), "[[a [b]] c [d]]", "[a [b]]", "a", "[b]", "b", "c", "[d]", "d")
}

func TestPartsOfOddTerms(t *testing.T) {
	one := term.Num(1)
	holds(t, api.Term{}, "")
	holds(t, api.Term{K: 9, L: []api.Term{one, term.Num(2)}}, "?", "1", "2")
	holds(t, api.Term{K: -1, S: "a", L: []api.Term{{K: 9, L: []api.Term{one}}, one}}, "?", "?", "1", "1")
	holds(t, api.Term{K: api.TmName, S: "a", L: []api.Term{one}}, "a", "1")
	holds(t, api.Term{K: api.TmNum, N: 3, L: []api.Term{one, one}}, "3", "1", "1")
	holds(t, api.Term{K: api.TmKey, S: "a", N: 3, L: []api.Term{one}}, "key(a 3)", "1")
	holds(t, api.Term{K: api.TmSeal, L: []api.Term{one, term.Num(2), term.Num(3)}}, "?", "1", "2", "3")
	holds(t, api.Term{K: api.TmSum, L: []api.Term{term.Num(4)}}, "?", "4")
	for i, x := range oddities() {
		want := []string{term.Text(x)}
		for _, p := range x.L {
			want = append(want, term.Text(p))
		}
		t.Log(i)
		holds(t, x, want...)
	}
}

// within is the chapter's sentence of Parts.
func within(x api.Term) []api.Term {
	l := []api.Term{x}
	for _, p := range x.L {
		l = append(l, within(p)...)
	}
	return l
}

func TestPartsByChance(t *testing.T) {
	r := rand.New(rand.NewSource(10))
	for range 20000 {
		x := byChance(r, 4)
		got, want := term.Parts(x), within(x)
		if !slices.EqualFunc(got, want, alike) {
			t.Fatalf("%v: %v, not %v", x, got, want)
		}
		n := 1
		for _, p := range x.L {
			n += term.Size(p)
		}
		if term.Size(x) != n || n != len(got) {
			t.Fatalf("%v: size %d, not %d", x, term.Size(x), n)
		}
	}
}

func TestWideTerms(t *testing.T) {
	for _, n := range []int{64, 65, 1000, 1 << 17} {
		x := full(n)
		if got := term.Size(x); got != n+1 {
			t.Errorf("%d: size %d", n, got)
		}
		l := term.Parts(x)
		if len(l) != n+1 || l[n].N != -n+1 || l[1].N != 0 {
			t.Errorf("%d: %d parts", n, len(l))
		}
	}
}

// TestFarDeeperThanValid: all but Valid answer there as they do elsewhere, and soon.
func TestFarDeeperThanValid(t *testing.T) {
	key := term.Key("a", 1)
	for _, n := range []int{17, 18, 32, 33, 100, 1000, 10000, 1 << 16} {
		a, b, c := term.Num(1), term.Num(1), term.Num(2)
		for range n {
			a, b, c = term.List(a), term.List(b), term.List(c)
		}
		if term.Valid(a) || term.Valid(term.List(a)) || term.Valid(term.Seal(key, 1, a)) {
			t.Errorf("%d levels are valid", n)
		}
		if s := term.Text(a); s != strings.Repeat("[", n)+"1"+strings.Repeat("]", n) {
			t.Errorf("%d levels: a text of %d bytes", n, len(s))
		}
		l := term.Parts(a)
		if term.Size(a) != n+1 || len(l) != n+1 || l[n].N != 1 || l[n].K != api.TmNum || len(l[0].L) != 1 {
			t.Errorf("%d levels: size %d, %d parts", n, term.Size(a), len(l))
		}
		if term.Order(a, b) != 0 || term.Order(a, c) != -1 || term.Order(c, a) != 1 || !term.Same(a, b) || term.Same(a, c) {
			t.Errorf("%d levels: %d %d %d", n, term.Order(a, b), term.Order(a, c), term.Order(c, a))
		}
		if l, ok := term.Names(a); len(l) != 0 || ok {
			t.Errorf("%d levels: %d names", n, len(l))
		}
	}
}

func TestSealsFarDeeperThanValid(t *testing.T) {
	key := term.Key("a", 1)
	for _, n := range []int{17, 33, 1000, 1 << 16} {
		a, b := term.Num(1), term.Num(-1)
		for i := range n {
			if i%2 == 0 {
				a, b = term.Seal(key, 1, a), term.Seal(key, 1, b)
			} else {
				a, b = term.Sum(a, 1, key), term.Sum(b, 1, key)
			}
		}
		if term.Valid(a) || term.Size(a) != 2*n+1 || len(term.Parts(a)) != 2*n+1 {
			t.Errorf("%d levels: size %d", n, term.Size(a))
		}
		if term.Order(a, b) != 1 || term.Order(b, a) != -1 || !term.Same(a, a) {
			t.Errorf("%d levels: %d %d", n, term.Order(a, b), term.Order(b, a))
		}
		if s := term.Text(a); strings.Count(s, "(") != 2*n || strings.Contains(s, "?") {
			t.Errorf("%d levels: a text of %d bytes", n, len(s))
		}
	}
}

// TestTermsThatHoldThemselves: what they answer is not promised, but they end.
func TestTermsThatHoldThemselves(t *testing.T) {
	l := make([]api.Term, 1)
	l[0] = api.Term{K: api.TmList, L: l}
	x := l[0]
	if term.Valid(x) || term.Size(x) < 1<<16 || len(term.Parts(x)) < 1<<16 || len(term.Text(x)) < 1<<16 || !term.Same(x, x) {
		t.Error("one that holds itself")
	}
	if l, ok := term.Names(x); len(l) != 0 || ok {
		t.Error("names of one that holds itself")
	}
}
