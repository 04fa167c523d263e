package term_test

import (
	"math"
	"math/rand"
	"strings"
	"testing"

	"legate/api"
	"legate/term"
)

// rising holds that Order goes by the places of a list.
func rising(t *testing.T, l ...api.Term) {
	t.Helper()
	for i, a := range l {
		for k, b := range l {
			want := 0
			if i < k {
				want = -1
			} else if i > k {
				want = 1
			}
			if got := term.Order(a, copied(b)); got != want {
				t.Errorf("%d and %d: %d (%q, %q)", i, k, got, term.Text(a), term.Text(b))
			}
			if got := term.Same(a, copied(b)); got != (want == 0) {
				t.Errorf("%d and %d are the same: %v", i, k, got)
			}
		}
	}
}

func TestOrderByKindFirst(t *testing.T) {
	z := strings.Repeat("z", 40)
	var l []api.Term
	for _, k := range []api.TermKind{math.MinInt, -2, -1, 0, 1, 2, 3, 4, 5, 6, 7, 255, 256, math.MaxInt} {
		// What comes later within a kind must not come ahead of the next kind's first.
		l = append(l, api.Term{K: k, N: math.MinInt}, api.Term{K: k, S: z, N: math.MaxInt, L: []api.Term{{K: 9}, {K: 9}}})
	}
	rising(t, l...)
}

func TestOrderByTextNext(t *testing.T) {
	for _, k := range []api.TermKind{-1, 0, 1, 2, 3, 4, 5, 6} {
		var l []api.Term
		for _, s := range []string{"", "\x00", "\x00\x00", "\x01", " ", "-", "/", "0", "9", "A", "Z", "a", "a\x00", "aa", "ab", "a\x7f", "a\x80", "b", "z", "zz", "\x7f", "\x80", "é", "\xfe\xff", "\xff", "\xff\x00", "\xff\xff"} {
			l = append(l, api.Term{K: k, S: s, N: 1}, api.Term{K: k, S: s, N: 2, L: []api.Term{{}}})
		}
		rising(t, l...)
	}
	l := make([]api.Term, 256)
	for c := range l {
		l[c] = term.Of("a" + string([]byte{byte(c)}) + "b")
	}
	rising(t, l...)
}

func TestOrderByNumberNext(t *testing.T) {
	for _, k := range []api.TermKind{-1, 0, 1, 2, 3, 4, 5, 6} {
		var l []api.Term
		for _, n := range []int{math.MinInt, math.MinInt + 1, -1 << 33, -1 << 32, -256, -2, -1, 0, 1, 2, 9, 10, 255, 256, 1 << 31, 1 << 32, 1<<32 + 1, 1 << 33, math.MaxInt - 1, math.MaxInt} {
			l = append(l, api.Term{K: k, N: n}, api.Term{K: k, N: n, L: []api.Term{{}}}, api.Term{K: k, N: n, L: []api.Term{{K: 7}, {}}})
		}
		rising(t, l...)
	}
}

func TestOrderByListLast(t *testing.T) {
	a, b, c := term.Of("a"), term.Of("b"), term.Of("c")
	for _, k := range []api.TermKind{-1, 0, 1, 2, 3, 4, 5, 6} {
		of := func(l ...api.Term) api.Term { return api.Term{K: k, L: l} }
		rising(t, of(), of(a), of(a, a), of(a, a, a), of(a, a, b), of(a, b), of(a, b, a), of(a, c), of(b), of(b, a), of(b, a, a, a, a, a), of(b, b), of(c))
		rising(t, of(of()), of(of(), of()), of(of(of())), of(of(of(), of())), of(of(of(of()))))
	}
	rising(t, term.List(a, term.List(b, a)), term.List(a, term.List(b, b)), term.List(a, term.List(b, b), a), term.List(b, term.List()))
	rising(t, full(64), full(65), full(66))
}

func TestEmptyListsAreTheSame(t *testing.T) {
	for _, k := range []api.TermKind{-1, 0, 1, 2, 3, 4, 5, 6} {
		a, b := api.Term{K: k}, api.Term{K: k, L: []api.Term{}}
		if term.Order(a, b) != 0 || term.Order(b, a) != 0 || !term.Same(a, b) || !term.Same(b, a) {
			t.Errorf("kind %d", k)
		}
	}
}

// compared is the chapter's sentence of Order.
func compared(a, b api.Term) int {
	by := func(below, above bool) int {
		if below {
			return -1
		}
		if above {
			return 1
		}
		return 0
	}
	if a.K != b.K {
		return by(a.K < b.K, true)
	}
	for i := range min(len(a.S), len(b.S)) {
		if a.S[i] != b.S[i] {
			return by(a.S[i] < b.S[i], true)
		}
	}
	if len(a.S) != len(b.S) {
		return by(len(a.S) < len(b.S), true)
	}
	if a.N != b.N {
		return by(a.N < b.N, true)
	}
	for i := range min(len(a.L), len(b.L)) {
		if o := compared(a.L[i], b.L[i]); o != 0 {
			return o
		}
	}
	return by(len(a.L) < len(b.L), len(a.L) > len(b.L))
}

// TestOrderIsOne: it answers -1, 0 or 1, turned round the other way, 0 just for what is the same, and of three it goes on.
func TestOrderIsOne(t *testing.T) {
	r := rand.New(rand.NewSource(11))
	var l []api.Term
	for range 250 {
		l = append(l, byChance(r, 2), validByChance(r, 2), byChance(r, 0))
	}
	order := make([][]int, len(l))
	for i, a := range l {
		order[i] = make([]int, len(l))
		for k, b := range l {
			o := term.Order(a, b)
			order[i][k] = o
			if o != compared(a, b) || o != -term.Order(b, a) || (o == 0) != alike(a, b) || term.Same(a, b) != (o == 0) {
				t.Fatalf("%v and %v: %d", a, b, o)
			}
		}
	}
	for i := range l {
		for k := range l {
			if order[i][k] > 0 {
				continue
			}
			for m := range l {
				if order[k][m] <= 0 && order[i][m] > 0 {
					t.Fatalf("%v, %v, %v", l[i], l[k], l[m])
				}
			}
		}
	}
}

func TestOrderByChance(t *testing.T) {
	r := rand.New(rand.NewSource(12))
	for range 20000 {
		a := byChance(r, 4)
		b := copied(a)
		if term.Order(a, b) != 0 || !term.Same(a, b) {
			t.Fatalf("%v is not the same", a)
		}
		// One field of one of its parts is changed.
		p := &b
		for len(p.L) > 0 && r.Intn(3) > 0 {
			p = &p.L[r.Intn(len(p.L))]
		}
		switch r.Intn(5) {
		case 0:
			p.K++
		case 1:
			p.S += "\x00"
		case 2:
			p.N -= 1 << r.Intn(63)
		case 3:
			p.L = append(p.L, api.Term{K: -9})
		case 4:
			*p = byChance(r, 1)
		}
		if term.Order(a, b) != compared(a, b) || term.Order(b, a) != compared(b, a) || term.Same(a, b) != alike(a, b) {
			t.Fatalf("%v and %v: %d, not %d", a, b, term.Order(a, b), compared(a, b))
		}
	}
}
