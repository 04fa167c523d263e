package term_test

import (
	"math/rand"
	"slices"
	"sync"
	"testing"

	"legate/api"
	"legate/term"
)

func made(t *testing.T, what string, got, want api.Term) {
	t.Helper()
	if !alike(got, want) {
		t.Errorf("%s: %v, not %v", what, got, want)
	}
}

func TestNamesNumbersAndKeysMade(t *testing.T) {
	for _, s := range append(append(names, notNames...), "", " ", "\x00") {
		made(t, "Of", term.Of(s), api.Term{K: api.TmName, S: s})
		for _, n := range numbers {
			made(t, "Key", term.Key(s, n), api.Term{K: api.TmKey, S: s, N: n})
		}
	}
	for _, n := range numbers {
		made(t, "Num", term.Num(n), api.Term{K: api.TmNum, N: n})
	}
}

func TestListsMade(t *testing.T) {
	made(t, "List of nothing", term.List(), api.Term{K: api.TmList})
	made(t, "List of a list that is nil", term.List([]api.Term(nil)...), api.Term{K: api.TmList})
	made(t, "List of an empty list", term.List([]api.Term{}...), api.Term{K: api.TmList})
	for i, x := range append(oddities(), term.Of("a"), term.Num(0), term.Key("", 1)) {
		t.Log(i)
		made(t, "List of one", term.List(x), api.Term{K: api.TmList, L: []api.Term{x}})
		made(t, "List of three", term.List(x, term.Num(2), x), api.Term{K: api.TmList, L: []api.Term{x, {K: api.TmNum, N: 2}, x}})
	}
	for _, n := range []int{64, 65, 1000} {
		l := make([]api.Term, n)
		for i := range l {
			l[i] = api.Term{K: api.TermKind(i), N: -i}
		}
		made(t, "List of many", term.List(l...), api.Term{K: api.TmList, L: l})
	}
}

func TestSealsAndSumsMade(t *testing.T) {
	l := append(oddities(), term.Of("a"), term.Num(0), term.Key("", 1), term.Key("ann", 2), term.List(term.Num(1)))
	for _, key := range l {
		for _, body := range l {
			for _, n := range numbers {
				made(t, "Seal", term.Seal(key, n, body), api.Term{K: api.TmSeal, N: n, L: []api.Term{key, body}})
				made(t, "Sum", term.Sum(key, n, body), api.Term{K: api.TmSum, N: n, L: []api.Term{key, body}})
			}
		}
	}
}

func TestRowsAndTheirNames(t *testing.T) {
	rows := [][]string{nil, {}, {""}, {"a"}, {"a", "b", "a"}, {"", "", ""}, {"A", "\xff", "a b", "12"}, append(names, notNames...), make([]string, 64), make([]string, 65), make([]string, 1000)}
	for i, l := range rows {
		x := term.Row(l)
		want := api.Term{K: api.TmList}
		for _, s := range l {
			want.L = append(want.L, api.Term{K: api.TmName, S: s})
		}
		made(t, "Row", x, want)
		if got, ok := term.Names(x); !ok || !slices.Equal(got, l) {
			t.Errorf("row %d: %q, %v", i, got, ok)
		}
	}
	if !term.Valid(term.Row(names)) || term.Valid(term.Row(notNames)) || term.Valid(term.Row(make([]string, 1))) {
		t.Error("a row is valid by its names")
	}
}

// nameless holds that there are no names, and no list beside that.
func nameless(t *testing.T, x api.Term) {
	t.Helper()
	if l, ok := term.Names(x); l != nil || ok {
		t.Errorf("%v: %q, %v", x, l, ok)
	}
}

func TestNamesOfOthers(t *testing.T) {
	a, key := term.Of("a"), term.Key("ann", 1)
	for _, x := range []api.Term{term.Num(1), key, term.List(), term.List(a), term.Seal(key, 1, a), term.Sum(key, 1, a), {K: -1}, {K: 6}, {K: 6, S: "a"}} {
		nameless(t, term.List(x))
		nameless(t, term.List(x, a, a))
		nameless(t, term.List(a, x, a))
		nameless(t, term.List(a, a, x))
		if x.K != api.TmList {
			nameless(t, x)
		}
	}
	for _, k := range []api.TermKind{-1, api.TmName, api.TmNum, api.TmKey, api.TmSeal, api.TmSum, 6} {
		nameless(t, api.Term{K: k})
		nameless(t, api.Term{K: k, S: "a"})
		nameless(t, api.Term{K: k, L: []api.Term{a}})
		nameless(t, api.Term{K: k, L: []api.Term{a, a}})
	}
	if l, ok := term.Names(term.List()); len(l) != 0 || !ok {
		t.Errorf("an empty list: %q, %v", l, ok)
	}
	if l, ok := term.Names(api.Term{K: api.TmList}); len(l) != 0 || !ok {
		t.Errorf("a list that is nil: %q, %v", l, ok)
	}
}

// TestListsAreTheirOwn: what is handed in may be changed afterwards, and what is answered, too.
func TestListsAreTheirOwn(t *testing.T) {
	l := []api.Term{term.Of("a"), term.Of("b")}
	x := term.List(l...)
	l[0] = term.Of("c")
	says(t, x, "[a b]")
	x.L[1] = term.Of("d")
	if l[1].S != "b" {
		t.Error("List hands out what it was handed")
	}
	row := []string{"a", "b"}
	y := term.Row(row)
	row[0] = "c"
	says(t, y, "[a b]")
	got, _ := term.Names(y)
	got[0] = "e"
	says(t, y, "[a b]")
	p := term.Parts(y)
	p[1], p[2] = term.Num(1), term.Num(2)
	says(t, y, "[a b]")
	says(t, term.List(term.Parts(y)...), "[[a b] a b]")
	// Who appends to one answer must not write into another one, or into an argument.
	room := append(make([]api.Term, 0, 8), term.Of("a"))
	z := term.List(room...)
	first, second := append(z.L, term.Of("f")), append(z.L, term.Of("s"))
	if first[1].S != "f" || second[1].S != "s" || room[:2][1].S != "" {
		t.Error("a list has room that is shared")
	}
	s := term.Seal(term.Key("a", 1), 2, z)
	first, second = append(s.L, term.Of("f")), append(s.L, term.Of("s"))
	if first[2].S != "f" || second[2].S != "s" {
		t.Error("a seal has room that is shared")
	}
}

// callAll calls all that there is, with the same term.
func callAll(x api.Term) string {
	row, ok := term.Names(x)
	if ok {
		term.Row(row)
	}
	term.Order(x, term.List(x.L...))
	s := term.Text(term.List(term.Seal(x, 2, x), term.Sum(x, 3, x), term.Row(append(row, x.S)), term.Of(x.S), term.Num(x.N), term.Key(x.S, x.N), term.Num(term.Size(x))))
	if term.Valid(x) || term.Same(x, x) {
		s += term.Text(term.List(term.Parts(x)...))
	}
	return s
}

func TestNoArgumentIsChanged(t *testing.T) {
	r := rand.New(rand.NewSource(13))
	for range 3000 {
		x := byChance(r, 3)
		was := copied(x)
		first := callAll(x)
		if !alike(x, was) {
			t.Fatalf("%v became %v", was, x)
		}
		if callAll(x) != first {
			t.Fatalf("%v: another answer", x)
		}
	}
	row := []string{"b", "a"}
	term.Row(row)
	if row[0] != "b" || row[1] != "a" {
		t.Errorf("%q", row)
	}
}

// TestWhatIsSharedStays: a term that others were made of is the same afterwards, and so are those.
func TestWhatIsSharedStays(t *testing.T) {
	r := rand.New(rand.NewSource(14))
	var all []api.Term
	var texts []string
	for range 2000 {
		x := validByChance(r, 2)
		if len(all) > 2 {
			a, b := all[r.Intn(len(all))], all[r.Intn(len(all))]
			x = []api.Term{term.List(a, b), term.Seal(a, 1, b), term.Sum(a, 2, x), term.List(a.L...), term.List(b, x)}[r.Intn(5)]
		}
		if term.Size(x) > 200 {
			continue
		}
		all, texts = append(all, x), append(texts, term.Text(x))
		term.Parts(x)
	}
	for i, x := range all {
		if term.Text(x) != texts[i] {
			t.Fatalf("%d: %s became %s", i, texts[i], term.Text(x))
		}
	}
}

// TestOfItsArgumentsAlone: at the same time, many ask for the same.
func TestOfItsArgumentsAlone(t *testing.T) {
	r := rand.New(rand.NewSource(15))
	x := validByChance(r, 6)
	for term.Size(x) < 50 {
		x = validByChance(r, 6)
	}
	want := callAll(x)
	var w sync.WaitGroup
	for range 8 {
		w.Go(func() {
			for range 50 {
				if callAll(x) != want {
					t.Error("another answer")
					return
				}
			}
		})
	}
	w.Wait()
}
