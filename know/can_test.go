package know_test

import (
	"math"
	"strings"
	"testing"

	"legate/api"
	"legate/know"
	"legate/term"
)

// can holds of each term whether it could be made.
func can(t *testing.T, s *know.Store, want bool, l ...api.Term) {
	t.Helper()
	for _, p := range l {
		if s.Can(p) != want {
			t.Errorf("%v of %s", !want, term.Text(p))
		}
	}
}

// TestNamesAndNumbersCanBeMade by one who knows nothing, too.
func TestNamesAndNumbersCanBeMade(t *testing.T) {
	for _, s := range []*know.Store{know.New(), heard(x, ann)} {
		can(t, s, true, x, y, term.Of("12"), term.Of(strings.Repeat("z", 40)), term.Num(0), one, term.Num(-1), term.Num(math.MaxInt), term.Num(math.MinInt))
		can(t, s, true, term.List(), term.List(x, one), term.List(term.List(), term.List(term.List(y))), term.Row([]string{"x", "y"}), term.List(numbers(64)...), nested(16, x))
	}
}

// TestKeysAreMadeByNobody: neither those of principals, nor those of sessions, unless they are known.
func TestKeysAreMadeByNobody(t *testing.T) {
	keys := []api.Term{ann, ann2, web, web2, first, second, term.Key("", math.MaxInt), term.Key("ann", 12), term.Key("12", 1)}
	can(t, know.New(), false, keys...)
	can(t, heard(x, one, term.Of("ann"), term.Row([]string{"ann"}), term.Seal(ann, 2, x), term.Sum(ann, 2, x), term.Seal(web, 2, ann)), false, keys...)
	can(t, heard(keys...), true, keys...)
	for i, k := range keys {
		for n, other := range keys {
			can(t, heard(k), i == n, other)
		}
	}
	can(t, heard(term.List(x, ann)), true, ann)
	can(t, heard(term.Sum(web, 2, ann)), true, ann)
	can(t, heard(term.Seal(web, 2, ann), web), true, ann)
}

func TestListsThatCanBeMade(t *testing.T) {
	s := heard(ann, term.Seal(web, 2, y), term.Sum(web, 3, z))
	can(t, s, true, term.List(ann), term.List(x, ann, one), term.List(ann, term.List(ann, ann), term.List()), term.List(term.Seal(web, 2, y), term.Sum(web, 3, z)), term.List(term.Seal(ann, 2, ann)))
	can(t, s, false, term.List(web), term.List(web, x), term.List(x, one, web), term.List(x, web, one), term.List(ann, term.List(x, term.List(web))), term.List(term.Seal(web, 2, x)), term.List(ann, term.Sum(web, 3, x)), term.List(ann2))
	// A list is made of what is in it, though each of its terms but one was heard in another list.
	can(t, heard(term.List(x, ann), term.List(y, first)), true, term.List(ann, first), term.List(y, ann, x))
	can(t, heard(term.List(x, ann), term.List(y, first)), false, term.List(ann, first, second))
}

// TestSealsAndSumsThatCanBeMade by one who knows the key, and can make the body.
func TestSealsAndSumsThatCanBeMade(t *testing.T) {
	for _, of := range []func(key api.Term, use int, body api.Term) api.Term{term.Seal, term.Sum} {
		s := heard(ann, first)
		can(t, s, true, of(ann, 1, x), of(ann, 255, one), of(first, 2, ann), of(ann, 2, first), of(ann, 2, ann), of(ann, 2, term.List(x, first)), of(ann, 2, of(first, 3, of(ann, 4, x))), of(ann, 2, term.Seal(first, 2, x)), of(ann, 2, term.Sum(first, 2, x)))
		can(t, s, false, of(web, 1, x), of(ann2, 1, x), of(second, 1, x), of(web, 1, web), of(web, 1, ann))
		can(t, s, false, of(ann, 1, web), of(ann, 1, term.List(x, web)), of(ann, 2, of(web, 2, x)), of(ann, 2, of(first, 2, web)), of(ann, 2, term.Seal(web, 2, x)), of(ann, 2, term.Sum(web, 2, x)))
		can(t, know.New(), false, of(ann, 1, x), of(first, 1, one), of(ann, 1, term.List()))
	}
}

// TestSealsThatWereHeard can be made as they were heard, though their keys and bodies are not known: and no others by these keys, or of these bodies.
func TestSealsThatWereHeard(t *testing.T) {
	body := term.List(web, y)
	s := heard(term.Seal(ann, 2, body), x)
	can(t, s, true, term.Seal(ann, 2, body), term.List(x, term.Seal(ann, 2, body)))
	can(t, s, false, ann, web, body, term.Seal(ann, 3, body), term.Seal(ann, 2, x), term.Seal(ann, 2, term.List(y, web)), term.Seal(ann2, 2, body), term.Sum(ann, 2, body), term.Seal(ann, 2, term.Seal(ann, 2, body)))
	// Sealed again by a key that is known.
	s.Learn(first)
	can(t, s, true, term.Seal(first, 2, term.Seal(ann, 2, body)), term.Sum(first, 2, term.Seal(ann, 2, body)))
	can(t, s, false, term.Seal(first, 2, body), term.Seal(ann, 2, first))
	s.Learn(ann)
	can(t, s, true, ann, web, body, term.Seal(ann, 3, body), term.Seal(ann, 2, x), term.Sum(ann, 2, body), term.Seal(web, 2, ann))
}

// TestSumsThatWereHeard tell their bodies, but can't be made of other ones.
func TestSumsThatWereHeard(t *testing.T) {
	s := heard(term.Sum(ann, 3, term.List(y, web)))
	can(t, s, true, term.Sum(ann, 3, term.List(y, web)), web, y, term.Sum(web, 3, y), term.Seal(web, 2, term.Sum(ann, 3, term.List(y, web))))
	can(t, s, false, ann, term.Sum(ann, 4, term.List(y, web)), term.Sum(ann, 3, web), term.Sum(ann, 3, y), term.Seal(ann, 3, term.List(y, web)), term.Sum(ann, 3, term.List(web, y)))
}

func TestWhatIsNotValidCanNotBeMade(t *testing.T) {
	for _, s := range []*know.Store{know.New(), heard(append(numbers(65), x, y, ann, web, first, nested(16, x))...)} {
		can(t, s, false, oddities()...)
		can(t, s, false, oddWithin()...)
	}
	can(t, heard(ann), false, nested(17, x), term.Seal(ann, 2, nested(16, x)), term.List(x, nested(16, y)))
	can(t, heard(ann), true, nested(16, x), term.Seal(ann, 2, nested(15, x)), term.List(x, nested(15, y)))
}

// TestAskingChangesNothing: what could be made is not known of it.
func TestAskingChangesNothing(t *testing.T) {
	s := heard(ann, term.Seal(web, 2, y))
	for _, p := range []api.Term{x, one, term.List(x, ann), term.Seal(ann, 3, x), term.Sum(ann, 3, x), term.List(web), first} {
		s.Can(p)
		s.Knows(p)
		s.Keys()
		knowsJust(t, s, ann, term.Seal(web, 2, y))
		knowsNot(t, s, p)
	}
}
