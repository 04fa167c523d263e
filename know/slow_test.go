package know_test

import (
	"math/rand"
	"slices"
	"testing"

	"legate/api"
	"legate/know"
	"legate/term"
)

// slow is a store by the chapter's sentences alone: a list of what is known, gone through as long as anything new comes of it.
type slow struct{ known []api.Term }

func (s *slow) knows(t api.Term) bool {
	return slices.ContainsFunc(s.known, func(p api.Term) bool { return term.Same(p, t) })
}

func (s *slow) add(l ...api.Term) {
	for _, t := range l {
		if !s.knows(t) {
			s.known = append(s.known, t)
		}
	}
}

func (s *slow) learn(t api.Term) {
	if !term.Valid(t) {
		return
	}
	s.add(t)
	for n := 0; n < len(s.known); {
		n = len(s.known)
		for _, p := range s.known {
			s.open(p)
		}
	}
}

func (s *slow) open(t api.Term) {
	if t.K == api.TmList {
		s.add(t.L...)
	}
	if t.K == api.TmSum || t.K == api.TmSeal && s.knows(t.L[0]) {
		s.add(t.L[1])
	}
}

func (s *slow) can(t api.Term) bool {
	if !term.Valid(t) {
		return false
	}
	if s.knows(t) || t.K == api.TmName || t.K == api.TmNum {
		return true
	}
	if t.K == api.TmSeal || t.K == api.TmSum {
		return s.knows(t.L[0]) && s.can(t.L[1])
	}
	if t.K != api.TmList {
		return false
	}
	for _, p := range t.L {
		if !s.can(p) {
			return false
		}
	}
	return true
}

func (s *slow) keys() []api.Term {
	var l []api.Term
	for _, t := range s.known {
		if t.K == api.TmKey {
			l = append(l, t)
		}
	}
	for i := range l {
		for k := i; k > 0 && term.Order(l[k-1], l[k]) > 0; k-- {
			l[k-1], l[k] = l[k], l[k-1]
		}
	}
	return l
}

// holdsTo holds a store to a slow one, of these terms and all that is in them.
func holdsTo(t *testing.T, s *know.Store, want *slow, of []api.Term) {
	t.Helper()
	if s.Len() != len(want.known) {
		t.Fatalf("%d terms of %s, not %d", s.Len(), texts(of), len(want.known))
	}
	if got := s.Keys(); !slices.EqualFunc(got, want.keys(), term.Same) {
		t.Fatalf("keys %s, not %s", texts(got), texts(want.keys()))
	}
	for _, out := range of {
		for _, p := range term.Parts(out) {
			if got := s.Knows(p); got != want.knows(p) {
				t.Fatalf("of %s: known %v: %s", texts(of), got, term.Text(p))
			}
			if got := s.Can(p); got != want.can(p) {
				t.Fatalf("of %s: could be made %v: %s", texts(of), got, term.Text(p))
			}
		}
	}
}

// byChance makes a term of at most that many levels, mostly one that is valid, of few names and keys.
func byChance(r *rand.Rand, deep int) api.Term {
	keys := []api.Term{ann, ann2, web, first, second}
	key := keys[r.Intn(len(keys))]
	kinds := 4
	if deep > 0 {
		kinds = 10
	}
	switch r.Intn(kinds) {
	case 0:
		return term.Of([]string{"x", "y", "1", "-1", "ann"}[r.Intn(5)])
	case 1:
		return term.Num(r.Intn(3) - 1)
	case 2, 3:
		return key
	case 4, 5, 6:
		return term.Seal(key, 1+r.Intn(2), byChance(r, deep-1))
	case 7:
		return term.Sum(key, r.Intn(20), byChance(r, deep-1))
	}
	var l []api.Term
	for range r.Intn(4) {
		l = append(l, byChance(r, deep-1))
	}
	return term.List(l...)
}

// someByChance are a few of these; keys by themselves are rare, or all would be known at once.
func someByChance(r *rand.Rand, n int) []api.Term {
	var l []api.Term
	for len(l) < n {
		if t := byChance(r, 4); t.K > api.TmKey || r.Intn(4) == 0 {
			l = append(l, t)
		}
	}
	return l
}

func TestLikeTheChaptersSentences(t *testing.T) {
	r := rand.New(rand.NewSource(1))
	for range 3000 {
		l, more := someByChance(r, 1+r.Intn(7)), someByChance(r, 4)
		s, want := know.New(), &slow{}
		for _, p := range l {
			s.Learn(p)
			want.learn(p)
			holdsTo(t, s, want, append(more, l...))
		}
	}
}

// TestLenOfWhatIsNested counts by hand what the chapter's sentence says: each term once.
func TestLenOfWhatIsNested(t *testing.T) {
	s := know.New()
	for _, c := range []struct {
		t    api.Term
		want int
	}{
		{x, 1}, {x, 1}, {term.List(x, x, x), 2}, {term.List(x, y), 4}, {term.List(term.List(x, y), y), 5}, {term.Of("A"), 5},
		{term.Seal(ann, 2, term.List(z, one)), 6}, {term.Seal(ann, 2, term.List(z, one)), 6}, {term.Seal(ann, 3, z), 7}, {term.Seal(ann, 4, x), 8},
		{ann, 12}, {ann, 12}, {term.Seal(ann, 5, z), 13}, {term.Sum(web, 2, z), 14}, {term.Sum(web, 2, web2), 16}, {term.List(), 17}, {api.Term{}, 17},
	} {
		s.Learn(c.t)
		if s.Len() != c.want || s.Len() != c.want {
			t.Errorf("behind %s: %d, not %d", term.Text(c.t), s.Len(), c.want)
		}
	}
}
