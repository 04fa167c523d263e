package know_test

import (
	"slices"
	"strconv"
	"strings"
	"testing"

	"legate/api"
	"legate/know"
	"legate/term"
)

// some keys, no two of which are the same, and what is not a key.
var (
	ann, ann2     = term.Key("ann", 1), term.Key("ann", 2)
	web, web2     = term.Key("web", 1), term.Key("web", 2)
	first, second = term.Key("", 1), term.Key("", 2)
	x, y, z       = term.Of("x"), term.Of("y"), term.Of("z")
	one           = term.Num(1)
)

// heard is a store that heard these terms, in their order.
func heard(l ...api.Term) *know.Store {
	s := know.New()
	for _, t := range l {
		s.Learn(t)
	}
	return s
}

// knowsJust holds that a store knows these terms, each of them another one, and nothing else.
func knowsJust(t *testing.T, s *know.Store, l ...api.Term) {
	t.Helper()
	var keys []api.Term
	for _, p := range l {
		if !s.Knows(p) {
			t.Errorf("not known: %s", term.Text(p))
		}
		if p.K == api.TmKey {
			keys = append(keys, p)
		}
	}
	if n := s.Len(); n != len(l) {
		t.Errorf("%d terms are known, not %d", n, len(l))
	}
	slices.SortFunc(keys, term.Order)
	if got := s.Keys(); !slices.EqualFunc(got, keys, term.Same) {
		t.Errorf("keys %s, not %s", texts(got), texts(keys))
	}
}

// knowsNot holds that a store knows none of these.
func knowsNot(t *testing.T, s *know.Store, l ...api.Term) {
	t.Helper()
	for _, p := range l {
		if s.Knows(p) {
			t.Errorf("known: %s", term.Text(p))
		}
	}
}

func texts(l []api.Term) string {
	var s []string
	for _, p := range l {
		s = append(s, term.Text(p))
	}
	return strings.Join(s, ", ")
}

// answers are all that a store answers, of these terms, as a text.
func answers(s *know.Store, of []api.Term) string {
	b := []byte(strconv.Itoa(s.Len()) + " terms, of them " + texts(s.Keys()) + ":")
	for _, p := range of {
		b = append(b, ' ')
		b = append(strconv.AppendBool(b, s.Knows(p)), '/')
		b = strconv.AppendBool(b, s.Can(p))
	}
	return string(b)
}

// inEachOrder hands on these terms, in each order there is.
func inEachOrder(l []api.Term, do func(l []api.Term)) {
	orders(slices.Clone(l), 0, do)
}

func orders(l []api.Term, from int, do func(l []api.Term)) {
	if from == len(l) {
		do(l)
		return
	}
	for i := from; i < len(l); i++ {
		l[from], l[i] = l[i], l[from]
		orders(l, from+1, do)
		l[from], l[i] = l[i], l[from]
	}
}

// copied is a term that shares no list with it.
func copied(t api.Term) api.Term {
	l := t.L
	t.L = nil
	for _, p := range l {
		t.L = append(t.L, copied(p))
	}
	return t
}

// nested is a term in that many lists.
func nested(n int, t api.Term) api.Term {
	for range n {
		t = term.List(t)
	}
	return t
}

// numbers are that many of them.
func numbers(n int) []api.Term {
	l := make([]api.Term, n)
	for i := range l {
		l[i] = term.Num(i)
	}
	return l
}

// oddities are terms that are not valid, each of another cause.
func oddities() []api.Term {
	return []api.Term{
		{}, term.Of("A"), term.Of("x y"), term.Of(strings.Repeat("z", 41)), {K: api.TmName, S: "x", N: 1}, {K: api.TmName, S: "x", L: []api.Term{y}},
		{K: api.TmNum, S: "x"}, {K: api.TmNum, N: 1, L: []api.Term{y}},
		{K: api.TmKey}, term.Key("ann", 0), term.Key("ann", -1), term.Key("Ann", 1), {K: api.TmKey, S: "ann", N: 1, L: []api.Term{y}},
		{K: api.TmList, S: "x"}, {K: api.TmList, N: 1}, {K: api.TmList, N: 1, L: []api.Term{x, ann}}, term.List(numbers(65)...), nested(17, x),
		term.Seal(ann, 0, x), term.Seal(ann, 256, x), term.Seal(x, 1, y), term.Seal(term.Key("ann", 0), 1, x), {K: api.TmSeal, N: 1}, {K: api.TmSeal, N: 1, L: []api.Term{ann}}, {K: api.TmSeal, N: 1, L: []api.Term{ann, x, y}}, {K: api.TmSeal, N: 1, S: "x", L: []api.Term{ann, x}},
		term.Sum(ann, 0, x), term.Sum(ann, 256, x), term.Sum(x, 1, y), term.Sum(term.Key("", 0), 1, x), {K: api.TmSum, N: 1}, {K: api.TmSum, N: 1, L: []api.Term{ann}}, {K: api.TmSum, N: 1, L: []api.Term{ann, x, y}}, {K: api.TmSum, N: 1, S: "x", L: []api.Term{ann, x}},
		{K: -1}, {K: 6}, {K: 9, L: []api.Term{x, ann}}, {K: 256 + api.TmKey, S: "ann", N: 1},
	}
}

// oddWithin are terms in which an odd one stands beside others that are not.
func oddWithin() []api.Term {
	var l []api.Term
	for _, odd := range oddities() {
		l = append(l, term.List(odd), term.List(x, ann, odd), term.List(odd, x, ann), term.List(x, term.List(ann, odd)), term.Seal(ann, 2, odd), term.Sum(ann, 2, odd), term.Sum(ann, 2, term.List(ann, x, odd)))
	}
	return l
}
