package know_test

import (
	"math/rand"
	"sync"
	"testing"

	"legate/api"
	"legate/know"
	"legate/term"
)

// TestWhatIsGivenIsNotChanged by Learn, Knows and Can.
func TestWhatIsGivenIsNotChanged(t *testing.T) {
	r := rand.New(rand.NewSource(5))
	l := append(append(oddities(), oddWithin()...), someByChance(r, 2000)...)
	s := know.New()
	for i, p := range l {
		if i%50 == 0 {
			s = know.New()
		}
		was := copied(p)
		s.Can(p)
		s.Learn(p)
		s.Knows(p)
		s.Learn(ann)
		if !term.Same(p, was) {
			t.Fatalf("%s was %s", term.Text(p), term.Text(was))
		}
	}
}

// TestRoomIsLeftAlone: what stands behind the end of a list that is given is another one's.
func TestRoomIsLeftAlone(t *testing.T) {
	all := []api.Term{x, ann, y, web, z}
	p := api.Term{K: api.TmList, L: all[:2]}
	s := heard(term.Seal(ann, 2, first), term.Seal(first, 2, second), p, api.Term{K: api.TmList, L: all[2:3]})
	knowsJust(t, s, term.Seal(ann, 2, first), term.Seal(first, 2, second), p, x, ann, first, second, term.List(y), y)
	s.Can(p)
	if !term.Same(term.List(all...), term.List(x, ann, y, web, z)) {
		t.Error(texts(all))
	}
}

// spoil changes all lists of a term.
func spoil(p api.Term) {
	for i := range p.L {
		spoil(p.L[i])
		p.L[i] = term.Key("spoilt", 1)
	}
}

// TestWhatIsGivenMayChangeLater: a store knows what it heard as it was then, what waits, too.
func TestWhatIsGivenMayChangeLater(t *testing.T) {
	p := term.List(x, term.Sum(web, 3, term.List(y, one)), term.Seal(ann, 2, term.List(z, term.Seal(ann, 3, term.List(first, term.Num(5))))))
	was := copied(p)
	s := heard(p)
	spoil(p)
	closed := []api.Term{was, x, was.L[1], was.L[1].L[1], y, one, was.L[2]}
	knowsJust(t, s, closed...)
	s.Learn(ann)
	within := was.L[2].L[1]
	knowsJust(t, s, append(closed, ann, within, z, within.L[1], within.L[1].L[1], first, term.Num(5))...)
	knowsNot(t, s, term.Key("spoilt", 1), p)
	key := ann2
	s = heard(key)
	key.S, key.N = "web", 9
	knowsJust(t, s, ann2)
}

// TestStoresKnowNothingOfEachOther, whether they are made at once or one behind the other.
func TestStoresKnowNothingOfEachOther(t *testing.T) {
	a, b := know.New(), know.New()
	if a == nil || a == b {
		t.Fatal("not two stores")
	}
	a.Learn(term.Seal(ann, 2, x))
	b.Learn(ann)
	knowsJust(t, a, term.Seal(ann, 2, x))
	knowsJust(t, b, ann)
	b.Learn(term.Seal(web, 2, y))
	a.Learn(web)
	knowsJust(t, a, term.Seal(ann, 2, x), web)
	knowsJust(t, b, ann, term.Seal(web, 2, y))
	knowsJust(t, know.New())
}

// told are what a store answers behind each term that it hears, and how often it is asked between.
func told(l, of []api.Term, often int) []string {
	s := know.New()
	var all []string
	for _, p := range l {
		s.Learn(p)
		for range often {
			answers(s, of)
		}
		all = append(all, answers(s, of))
	}
	return all
}

// TestSameCallsSameAnswers, whatever is asked between, and by many at once, each of a store of its own.
func TestSameCallsSameAnswers(t *testing.T) {
	r := rand.New(rand.NewSource(6))
	for range 40 {
		l, of := append(someByChance(r, 20), ordered()...), someByChance(r, 20)
		want := told(l, of, 0)
		var w sync.WaitGroup
		for n := range 8 {
			w.Go(func() {
				for i, got := range told(l, of, n%3) {
					if got != want[i] {
						t.Errorf("%s: %s, not %s", term.Text(l[i]), got, want[i])
					}
				}
			})
		}
		w.Wait()
	}
}
