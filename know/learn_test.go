package know_test

import (
	"math"
	"strings"
	"testing"

	"legate/api"
	"legate/know"
	"legate/term"
)

func TestExampleOfTheChapter(t *testing.T) {
	both := term.List(x, y)
	sealed := term.Seal(ann, 2, both)
	knowsJust(t, heard(sealed, ann), sealed, ann, both, x, y)
	knowsJust(t, heard(ann, sealed), sealed, ann, both, x, y)
}

func TestNewStore(t *testing.T) {
	s := know.New()
	knowsJust(t, s)
	knowsNot(t, s, x, one, term.Num(0), ann, first, term.List(), term.List(x), term.Seal(ann, 1, x), term.Sum(ann, 1, x), api.Term{})
	knowsNot(t, s, oddities()...)
}

func TestEachKindHeard(t *testing.T) {
	for _, p := range []api.Term{
		x, term.Of(strings.Repeat("z", 40)), term.Of("12"), term.Of("-"),
		term.Num(0), one, term.Num(-1), term.Num(math.MaxInt), term.Num(math.MinInt),
		ann, first, term.Key("", math.MaxInt), term.Key("12", 12),
		term.List(), {K: api.TmList, L: []api.Term{}},
		term.Seal(ann, 1, x), term.Seal(first, 255, term.List(x, ann)),
	} {
		s := heard(p)
		knowsJust(t, s, p)
		s.Learn(copied(p))
		knowsJust(t, s, p)
	}
	list, sum := term.List(x, one, ann), term.Sum(ann, 1, x)
	knowsJust(t, heard(list), list, x, one, ann)
	knowsJust(t, heard(sum), sum, x)
	knowsJust(t, heard(x, one, ann, term.List(), sum), x, one, ann, term.List(), sum)
}

// TestKnownAlready: of what is known, in whatever way it came to be, nothing changes.
func TestKnownAlready(t *testing.T) {
	list := term.List(x, term.List(y, ann), term.Sum(web, 3, z), term.Seal(ann, 2, second), term.Seal(web, 2, one))
	s := heard(list)
	all := []api.Term{list, x, term.List(y, ann), y, ann, term.Sum(web, 3, z), z, term.Seal(ann, 2, second), second, term.Seal(web, 2, one)}
	knowsJust(t, s, all...)
	for range 3 {
		for _, p := range all {
			s.Learn(copied(p))
			knowsJust(t, s, all...)
		}
	}
	knowsNot(t, s, web, one)
}

// TestNothingOfWhatIsNotValid: neither it is known, nor what stands in it, and no seal is opened by a key in it.
func TestNothingOfWhatIsNotValid(t *testing.T) {
	waiting := term.Seal(ann, 5, z)
	for _, odd := range append(oddities(), oddWithin()...) {
		if term.Valid(odd) {
			t.Errorf("valid: %s", term.Text(odd))
		}
		s := know.New()
		s.Learn(odd)
		knowsJust(t, s)
		knowsNot(t, s, odd)
		s = heard(waiting, web, x)
		s.Learn(odd)
		knowsJust(t, s, waiting, web, x)
		knowsNot(t, s, odd)
	}
}

// TestNotValidThoughItsPartsAreKnown: what is not valid is not known when all in it is.
func TestNotValidThoughItsPartsAreKnown(t *testing.T) {
	s := heard(append(numbers(65), ann, x, y, term.List(x, ann), nested(16, x), term.Seal(ann, 1, x))...)
	knowsNot(t, s, oddities()...)
	knowsNot(t, s, oddWithin()...)
}

func TestListsInLists(t *testing.T) {
	inner, empty := term.List(y, ann), term.List()
	middle := term.List(inner, empty, inner)
	list := term.List(x, middle, inner, first)
	knowsJust(t, heard(list), list, x, middle, inner, y, ann, empty, first)
	full := term.List(numbers(64)...)
	knowsJust(t, heard(full), append(numbers(64), full)...)
	// What is in a list is known of it, but no other list of it.
	s := heard(term.List(x, y, z))
	knowsNot(t, s, term.List(x), term.List(x, y), term.List(y, x, z), term.List(x, y, z, z), term.List(term.List(x, y, z)), empty)
}

func TestSumsTellTheirBodies(t *testing.T) {
	sum := term.Sum(ann, 3, x)
	knowsJust(t, heard(sum), sum, x)
	knowsJust(t, heard(sum, ann), sum, x, ann)
	knowsJust(t, heard(ann, sum), sum, x, ann)
	in := term.Sum(web, 4, term.List(y, ann))
	out := term.Sum(ann, 3, in)
	knowsJust(t, heard(out), out, in, term.List(y, ann), y, ann)
	knowsNot(t, heard(out), web, sum)
	of := term.Sum(ann, 3, ann)
	knowsJust(t, heard(of), of, ann)
	// The sum of what is sealed tells the seal alone.
	sealed := term.Seal(ann, 2, x)
	summed := term.Sum(ann, 3, sealed)
	knowsJust(t, heard(summed), summed, sealed)
	knowsJust(t, heard(summed, ann), summed, sealed, ann, x)
}

// TestTermsThatAreAlmostTheSame: what is known is known as it is, and nothing that differs from it in one field.
func TestTermsThatAreAlmostTheSame(t *testing.T) {
	alike := []api.Term{
		term.Of("7"), term.Num(7), term.Key("", 7), term.Key("7", 7), term.Key("7", 1), term.Num(-7), term.Of("-7"),
		term.List(), term.List(term.List()), term.List(term.List(), term.List()), term.List(term.List(term.List())),
		term.List(term.Of("7")), term.List(term.Num(7)), term.List(term.Of("7"), term.Num(7)), term.List(term.Num(7), term.Of("7")), term.Row([]string{"7", "7"}), term.List(term.Num(7), term.Num(7)), term.List(term.Num(77)), term.Row([]string{"77"}),
		term.List(term.Num(1), term.Of("002")), term.List(term.Num(100), term.Of("2")), term.List(term.Num(10), term.Of("02")), term.List(term.Of("1"), term.Num(12)), term.List(term.Of("11"), term.Num(2)), term.List(term.Key("", 12), term.Key("3", 4)), term.List(term.Key("", 1), term.Key("23", 4)), term.List(term.Key("1", 2)), term.List(term.Key("", 12)),
		term.List(term.List(x), y), term.List(term.List(x, y)), term.List(x, term.List(y)), term.List(x, y), term.List(x, y, term.List()), term.List(x, term.List(), y),
		term.Seal(ann, 7, x), term.Seal(ann, 8, x), term.Seal(ann2, 7, x), term.Seal(web, 7, x), term.Seal(ann, 7, y), term.Seal(ann, 7, term.List(x)), term.Seal(ann, 7, term.Of("7")), term.Seal(ann, 7, term.Num(7)),
		term.Sum(ann, 7, x), term.Sum(ann, 8, x), term.Sum(ann2, 7, x), term.Sum(ann, 7, term.Of("7")), term.Sum(ann, 7, term.Num(7)), term.List(ann, x), term.List(ann, term.Num(7), x),
	}
	for i, p := range alike {
		s := heard(p)
		for k, q := range alike {
			if s.Knows(q) && i != k && !inParts(p, q) {
				t.Errorf("of %s: %s, place %d", term.Text(p), term.Text(q), k)
			}
		}
	}
	knowsNot(t, heard(term.Of("7")), term.Num(7))
	knowsNot(t, heard(term.Num(7)), term.Of("7"))
	knowsNot(t, heard(term.List(term.Of("7"))), term.Num(7), term.List(term.Num(7)))
	s := heard(alike...)
	opened := s.Len()
	for _, p := range alike {
		s.Learn(p)
	}
	if s.Len() != opened {
		t.Errorf("%d, not %d", s.Len(), opened)
	}
}

// inParts tells whether a term is another one, or stands in it.
func inParts(p, q api.Term) bool {
	for _, in := range term.Parts(p) {
		if term.Same(in, q) {
			return true
		}
	}
	return false
}
