package know_test

import (
	"math"
	"slices"
	"strings"
	"testing"

	"legate/api"
	"legate/know"
	"legate/term"
)

// ordered are keys by the words of term.Order: by their names, byte by byte, and then by their numbers.
func ordered() []api.Term {
	return []api.Term{
		first, second, term.Key("", 10), term.Key("", math.MaxInt), term.Key("-", 1), term.Key(".", 3), term.Key("/", 2), term.Key("1", 1), term.Key("10", 1), term.Key("2", 1),
		term.Key("an", 5), ann, ann2, term.Key("ann", 10), term.Key("ann", 100), term.Key("ann-1", 1), term.Key("anna", 1), web, web2, term.Key("web", 300), term.Key(strings.Repeat("z", 40), 1),
	}
}

// tells holds that a store's keys are these, in their order.
func tells(t *testing.T, s *know.Store, want []api.Term) {
	t.Helper()
	if got := s.Keys(); !slices.EqualFunc(got, want, term.Same) {
		t.Errorf("%s, not %s", texts(got), texts(want))
	}
}

func TestKeysInTheirOrder(t *testing.T) {
	want := ordered()
	tells(t, heard(want...), want)
	back := slices.Clone(want)
	slices.Reverse(back)
	tells(t, heard(back...), want)
	for by := range want {
		tells(t, heard(append(slices.Clone(want[by:]), want[:by]...)...), want)
	}
	s := know.New()
	for i, k := range want {
		tells(t, s, want[:i])
		s.Learn(k)
	}
	for range 20 {
		tells(t, s, want)
	}
}

// TestKeysEachOnce, however often they are heard, and without what is no key, or is not known.
func TestKeysEachOnce(t *testing.T) {
	s := heard(ann, ann, x, one, term.List(ann, web, ann, term.List()), term.Sum(second, 2, web), term.Seal(ann, 3, web), term.Seal(first, 2, web2), term.Sum(ann2, 2, term.Seal(web, 3, ann)))
	tells(t, s, []api.Term{ann, web})
	s.Learn(first)
	tells(t, s, []api.Term{first, ann, web, web2})
}

func TestKeysOfOneWhoKnowsNone(t *testing.T) {
	tells(t, know.New(), nil)
	tells(t, heard(x, one, term.List(), term.Seal(ann, 2, web), term.Sum(ann, 2, y)), nil)
}

// TestKeysAreNoPartOfTheStore: who changes what is answered changes no other answer.
func TestKeysAreNoPartOfTheStore(t *testing.T) {
	room := make([]api.Term, 4)
	s := heard(api.Term{K: api.TmKey, S: "ann", N: 1, L: room[:0]}, web, term.Seal(first, 2, x))
	before, other := s.Keys(), s.Keys()
	for i := range before {
		before[i].S, before[i].N = "gone", 7
		before[i].L = append(before[i].L, x, y)
	}
	_ = append(before[:0], first)
	slices.Reverse(before)
	if !term.Same(term.List(room...), term.List(make([]api.Term, 4)...)) {
		t.Error("what is behind the key that was handed in was changed:", texts(room))
	}
	for _, k := range other {
		if len(k.L) > 0 || cap(k.L) > 0 {
			t.Errorf("%s has room", term.Text(k))
		}
	}
	if !slices.EqualFunc(other, []api.Term{ann, web}, term.Same) {
		t.Error(texts(other))
	}
	knowsJust(t, s, ann, web, term.Seal(first, 2, x))
	knowsNot(t, s, first, x)
}
