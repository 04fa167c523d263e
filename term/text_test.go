package term_test

import (
	"math"
	"math/rand"
	"strconv"
	"strings"
	"testing"

	"legate/api"
	"legate/term"
)

func says(t *testing.T, x api.Term, want string) {
	t.Helper()
	if got := term.Text(x); got != want {
		t.Errorf("%q, not %q", got, want)
	}
}

func TestTextOfTheChapter(t *testing.T) {
	says(t, term.Seal(term.Key("ann", 1), 2, term.List(term.Of("x"), term.Num(-3))), "seal(key(ann 1) 2 [x -3])")
}

func TestTextOfNames(t *testing.T) {
	for _, s := range append(append(names, notNames...), "", " ", "[", "?", "key(a 1)", "\x80") {
		says(t, api.Term{K: api.TmName, S: s}, s)
		says(t, api.Term{K: api.TmName, S: s, N: 7, L: []api.Term{term.Num(1)}}, s)
	}
	says(t, api.Term{}, "")
}

func TestTextOfNumbers(t *testing.T) {
	for n, want := range map[int]string{0: "0", 1: "1", 9: "9", 10: "10", -1: "-1", -10: "-10", 100: "100", 255: "255", 1099511627776: "1099511627776", math.MaxInt: "9223372036854775807", math.MinInt: "-9223372036854775808"} {
		says(t, term.Num(n), want)
		says(t, api.Term{K: api.TmNum, N: n, S: "a", L: []api.Term{term.Num(1)}}, want)
		says(t, term.Key("", n), "key( "+want+")")
		says(t, term.Key("ann", n), "key(ann "+want+")")
		says(t, api.Term{K: api.TmKey, S: "A b", N: n, L: []api.Term{term.Num(1)}}, "key(A b "+want+")")
		says(t, term.Seal(term.Key("", 7), n, term.Of("x")), "seal(key( 7) "+want+" x)")
		says(t, term.Sum(term.Key("", 7), n, term.Of("x")), "sum(key( 7) "+want+" x)")
	}
}

func TestTextOfLists(t *testing.T) {
	says(t, term.List(), "[]")
	says(t, api.Term{K: api.TmList}, "[]")
	says(t, api.Term{K: api.TmList, S: "a", N: 7}, "[]")
	says(t, term.List(term.Of("a")), "[a]")
	says(t, term.List(term.Of("a"), term.Of("b"), term.Num(3)), "[a b 3]")
	says(t, term.List(term.List(), term.List(term.List()), term.Of("a"), term.List(term.Of("b"), term.Num(0))), "[[] [[]] a [b 0]]")
	says(t, term.List(term.Of(""), term.Of("")), "[ ]")
	says(t, term.List(term.Of(""), term.Of("a"), term.Of("")), "[ a ]")
	says(t, api.Term{K: api.TmList, L: make([]api.Term, 66)}, "["+strings.Repeat(" ", 65)+"]")
}

func TestTextOfSealsAndSums(t *testing.T) {
	key := term.Key("ann", 1)
	for k, head := range map[api.TermKind]string{api.TmSeal: "seal(", api.TmSum: "sum("} {
		says(t, api.Term{K: k, N: 2, L: []api.Term{key, term.List()}}, head+"key(ann 1) 2 [])")
		says(t, api.Term{K: k, N: -5, S: "a", L: []api.Term{key, key}}, head+"key(ann 1) -5 key(ann 1))")
		says(t, api.Term{K: k, L: []api.Term{term.Of("x"), {K: 9}}}, head+"x 0 ?)")
		says(t, api.Term{K: k, N: 1, L: []api.Term{{K: k, N: 2, L: []api.Term{key, key}}, term.Num(4)}}, head+head+"key(ann 1) 2 key(ann 1)) 1 4)")
		for _, l := range [][]api.Term{nil, {}, {key}, {key, key, key}, make([]api.Term, 64), make([]api.Term, 65)} {
			says(t, api.Term{K: k, N: 2, L: l}, "?")
			says(t, term.List(term.Of("a"), api.Term{K: k, N: 2, L: l}, term.Of("b")), "[a ? b]")
			says(t, term.Seal(key, 2, api.Term{K: k, N: 2, L: l}), "seal(key(ann 1) 2 ?)")
			says(t, term.Sum(api.Term{K: k, N: 2, L: l}, 2, key), "sum(? 2 key(ann 1))")
		}
	}
}

func TestTextOfOthers(t *testing.T) {
	for _, k := range []api.TermKind{-1, -2, 6, 7, 99, 256, math.MaxInt, math.MinInt} {
		says(t, api.Term{K: k}, "?")
		says(t, api.Term{K: k, S: "a", N: 1, L: []api.Term{term.Key("a", 1), term.Num(1)}}, "?")
		says(t, term.List(api.Term{K: k}, api.Term{K: k}), "[? ?]")
	}
}

// spelt is the chapter's sentence of Text, joined level by level.
func spelt(x api.Term) string {
	var l []string
	for _, p := range x.L {
		l = append(l, spelt(p))
	}
	number := strconv.Itoa(x.N)
	switch {
	case x.K == api.TmName:
		return x.S
	case x.K == api.TmNum:
		return number
	case x.K == api.TmKey:
		return "key(" + x.S + " " + number + ")"
	case x.K == api.TmList:
		return "[" + strings.Join(l, " ") + "]"
	case x.K == api.TmSeal && len(l) == 2:
		return "seal(" + l[0] + " " + number + " " + l[1] + ")"
	case x.K == api.TmSum && len(l) == 2:
		return "sum(" + l[0] + " " + number + " " + l[1] + ")"
	}
	return "?"
}

func TestTextByChance(t *testing.T) {
	r := rand.New(rand.NewSource(8))
	for range 20000 {
		x := byChance(r, 4)
		says(t, x, spelt(x))
		y := validByChance(r, 4)
		says(t, y, spelt(y))
	}
}

// looksLikeNumber is a name that is written as a number is.
func looksLikeNumber(s string) bool {
	n, err := strconv.Atoi(s)
	return err == nil && strconv.Itoa(n) == s
}

// TestSameTextSameTerm: of valid terms, but for names that look like numbers, a text tells the term.
func TestSameTextSameTerm(t *testing.T) {
	r := rand.New(rand.NewSource(9))
	by := map[string]api.Term{}
	for range 200000 {
		x := validByChance(r, 3)
		if !term.Valid(x) {
			t.Fatalf("not valid: %s", term.Text(x))
		}
		s := term.Text(x)
		y, ok := by[s]
		if ok && (!term.Same(x, y) || !alike(x, y)) {
			t.Fatalf("two terms: %s", s)
		}
		by[s] = x
	}
	if len(by) < 10000 {
		t.Errorf("only %d texts", len(by))
	}
}

// TestSameTextOfShortNames goes through all names of up to two bytes, and terms that hold two of them.
func TestSameTextOfShortNames(t *testing.T) {
	var l []string
	for i := range ofNames {
		l = append(l, ofNames[i:i+1])
		for k := range ofNames {
			l = append(l, ofNames[i:i+1]+ofNames[k:k+1])
		}
	}
	by := map[string]api.Term{}
	note := func(x api.Term) {
		s := term.Text(x)
		if y, ok := by[s]; ok && !term.Same(x, y) {
			t.Errorf("two terms: %s", s)
		}
		by[s] = x
	}
	for n := -120; n <= 120; n++ {
		note(term.List(term.Num(n)))
		note(term.List(term.Num(n), term.Num(-n)))
		note(term.Key("", n))
	}
	for i, s := range l {
		note(term.Key(s, 1))
		if looksLikeNumber(s) {
			continue
		}
		note(term.Of(s))
		note(term.List(term.Of(s)))
		note(term.Row([]string{s, "a"}))
		note(term.Row([]string{"a", s}))
		note(term.Row([]string{s, l[len(l)-1-i]}))
		note(term.Seal(term.Key(s, 1), 2, term.Of(s)))
		note(term.Sum(term.Key(s, 1), 2, term.Of(s)))
	}
}

// TestNamesThatLookLikeNumbers: Name and Text say that these have a number's text, and Order that they are not that number.
func TestNamesThatLookLikeNumbers(t *testing.T) {
	for _, n := range []int{0, 1, 12, -3, math.MaxInt, math.MinInt} {
		number := term.Num(n)
		name := term.Of(term.Text(number))
		if !term.Valid(name) || !term.Valid(number) || term.Text(name) != term.Text(number) || term.Same(name, number) {
			t.Errorf("%d: %v %v", n, name, number)
		}
	}
}
