package know_test

import (
	"slices"
	"testing"
	"time"

	"legate/api"
	"legate/know"
	"legate/term"
)

// soon holds that something ends, long before one would give up waiting for it.
func soon(t *testing.T, do func()) {
	t.Helper()
	done := make(chan bool)
	go func() {
		defer close(done)
		do()
	}()
	select {
	case <-done:
	case <-time.After(time.Minute):
		t.Fatal("it does not end")
	}
}

// around are the ways in which a term stands in another one.
func around() []func(p api.Term) api.Term {
	return []func(p api.Term) api.Term{
		func(p api.Term) api.Term { return term.List(p) },
		func(p api.Term) api.Term { return term.List(x, p, one) },
		func(p api.Term) api.Term { return term.Seal(ann, 2, p) },
		func(p api.Term) api.Term { return term.Seal(first, 3, p) },
		func(p api.Term) api.Term { return term.Sum(web, 4, p) },
	}
}

// TestAsDeepAsMayBe: what stands in 16 others is known as any other is, what stands in 17 is not heard.
func TestAsDeepAsMayBe(t *testing.T) {
	for _, f := range around() {
		for _, g := range around() {
			p := term.Key("", 9)
			for n := range 17 {
				s := heard(ann, first, p)
				if !s.Knows(p) || !s.Can(p) || !s.Knows(term.Key("", 9)) {
					t.Errorf("in %d others: %s", n, term.Text(p))
				}
				if s = heard(p, first, ann); !s.Knows(p) || !s.Can(p) || !s.Knows(term.Key("", 9)) {
					t.Errorf("in %d others, ahead of its keys: %s", n, term.Text(p))
				}
				if n%2 == 0 {
					p = f(p)
				} else {
					p = g(p)
				}
			}
			s := heard(ann, first, web, p)
			knowsJust(t, s, ann, first, web)
			if s.Knows(p) || s.Can(p) {
				t.Errorf("in 17 others: %s", term.Text(p))
			}
		}
	}
}

// TestSealsAsDeepAsMayBe have a key each, that come in three orders: one key that is missing hides all that is further in.
func TestSealsAsDeepAsMayBe(t *testing.T) {
	var keys []api.Term
	p := x
	for n := range 16 {
		keys = append(keys, term.Key("", 1+n))
		p = term.Seal(keys[n], 2, p)
	}
	back := slices.Clone(keys)
	slices.Reverse(back)
	for _, l := range [][]api.Term{keys, back, append(slices.Clone(keys[7:]), keys[:7]...)} {
		s := heard(p)
		for i, k := range l {
			if s.Knows(x) || s.Len() < 1+i {
				t.Errorf("ahead of key %d: %d", i, s.Len())
			}
			s.Learn(k)
		}
		if !s.Knows(x) || s.Len() != 33 {
			t.Error(s.Len())
		}
	}
	for i := range keys {
		s := heard(append(slices.Delete(slices.Clone(keys), i, i+1), p)...)
		if s.Knows(x) || s.Len() != 15+16-i {
			t.Errorf("without key %d: %d", i, s.Len())
		}
	}
}

// TestGreatLists end soon: in 16 levels of two each, and in 3 levels of 64 each.
func TestGreatLists(t *testing.T) {
	soon(t, func() {
		same, p := x, ann
		for range 16 {
			same, p = term.List(same, same), term.List(same, p)
		}
		wide := term.List(numbers(64)...)
		for range 2 {
			wide = term.List(slices.Repeat([]api.Term{wide}, 64)...)
		}
		s := heard(same, p, wide)
		if n := s.Len(); n != 17+17+64+3 || !s.Can(term.List(x, ann)) {
			t.Error(n)
		}
		again := term.List(slices.Repeat([]api.Term{wide.L[0]}, 64)...)
		for range 20 {
			s.Learn(again)
			if !s.Knows(p) || !s.Can(term.Seal(ann, 2, term.List(wide.L[0], x))) || s.Can(term.List(wide, web)) {
				t.Error("at last")
			}
		}
	})
}

// TestTreesOfSeals: 2^14 numbers, each in 15 seals and lists.
func TestTreesOfSeals(t *testing.T) {
	soon(t, func() {
		var l []api.Term
		for i := range 1 << 14 {
			l = append(l, term.Num(i))
		}
		for len(l) > 4 {
			var up []api.Term
			for i := 0; i < len(l); i += 4 {
				up = append(up, term.Seal(ann, 2, term.List(l[i:i+4]...)))
			}
			l = up
		}
		s := heard(l...)
		if s.Len() != 4 || s.Can(term.Seal(ann, 3, x)) {
			t.Error(s.Len())
		}
		s.Learn(ann)
		if want := 1<<14 + 2*(4+16+64+256+1024+4096) + 1; s.Len() != want {
			t.Errorf("%d, not %d", s.Len(), want)
		}
		if !s.Can(term.Seal(ann, 3, term.List(l...))) || s.Can(term.Seal(web, 3, term.List(l...))) {
			t.Error("what could be made")
		}
	})
}

// many is how many terms are heard where a store may not go through all that it knows for each.
const many = 100000

// TestLongChains of seals, each of which has the next one's key, heard from the last one on, and from the first one on.
func TestLongChains(t *testing.T) {
	soon(t, func() {
		chain := make([]api.Term, many)
		for i := range chain {
			chain[i] = term.Seal(term.Key("", 1+i), 2, term.Key("", 2+i))
		}
		for range 2 {
			s := heard(chain...)
			if s.Len() != many || len(s.Keys()) != 0 {
				t.Error(s.Len())
			}
			s.Learn(first)
			if s.Len() != 2*many+1 || len(s.Keys()) != many+1 || !s.Knows(term.Key("", 1+many)) {
				t.Error(s.Len())
			}
			slices.Reverse(chain)
		}
	})
}

// TestManySealsForOneKey wait, and are open at once; the same ones again, and more of them, come to no more.
func TestManySealsForOneKey(t *testing.T) {
	soon(t, func() {
		s := know.New()
		for range 2 {
			for i := range many {
				s.Learn(term.Seal(ann, 2, term.Num(i)))
				s.Learn(term.Seal(ann, 3, term.Num(i)))
			}
			if s.Len() != 2*many {
				t.Error(s.Len())
			}
		}
		s.Learn(ann)
		if s.Len() != 3*many+1 {
			t.Error(s.Len())
		}
		for i := range many {
			s.Learn(term.Seal(ann, 4, term.Num(i)))
			s.Learn(ann)
		}
		if s.Len() != 4*many+1 || s.Knows(term.Num(many)) || !s.Knows(term.Num(many-1)) {
			t.Error(s.Len())
		}
	})
}

// TestTermsThatHoldThemselves are not valid: each call ends.
func TestTermsThatHoldThemselves(t *testing.T) {
	soon(t, func() {
		for _, k := range []api.TermKind{api.TmList, api.TmSeal, api.TmSum} {
			l := []api.Term{ann, ann}
			p := api.Term{K: k, L: l}
			if k != api.TmList {
				p.N = 2
			}
			l[1] = p
			s := heard(ann, p)
			knowsJust(t, s, ann)
			if s.Knows(p) || s.Can(p) {
				t.Error(k)
			}
		}
	})
}
