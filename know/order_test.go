package know_test

import (
	"math/rand"
	"slices"
	"testing"

	"legate/api"
	"legate/know"
	"legate/term"
)

// heardSets are terms that open one another, each set in another way.
func heardSets() [][]api.Term {
	return [][]api.Term{
		{x, ann, term.List(x, ann), term.Seal(ann, 2, y)},
		{term.Seal(ann, 2, web), term.Seal(web, 2, first), term.Seal(first, 2, second), term.Seal(second, 2, x), ann},
		{term.Seal(ann, 2, term.Seal(web, 2, term.Seal(first, 2, x))), term.List(first, y), term.Sum(second, 3, web), term.Seal(second, 4, ann), second},
		{term.Seal(ann, 2, x), term.Seal(ann, 2, y), term.Seal(ann, 3, term.List(x, web)), term.Seal(web, 2, ann), term.Seal(first, 2, web)},
		{term.Seal(ann, 2, ann), term.Seal(web, 2, ann), term.Sum(ann, 3, term.List(web, api.Term{K: api.TmNum})), term.Seal(ann, 2, term.Of("0")), api.Term{K: 9}},
		{term.List(term.Seal(first, 2, x), term.Seal(second, 2, first)), term.List(term.List(second)), term.Of("7"), term.Num(7), term.Seal(ann2, 2, second)},
	}
}

// asked are the terms of a set, all that is in them, and such as could be made of them.
func asked(set []api.Term) []api.Term {
	var l []api.Term
	for _, out := range set {
		for _, p := range term.Parts(out) {
			l = append(l, p, term.List(x, p), term.Seal(ann, 7, p), term.Sum(web, 7, p), term.Seal(first, 7, term.List(p, second)))
		}
	}
	return append(l, ann, ann2, web, web2, first, second)
}

// TestWhateverTheOrder: it comes to the same, and no less if anything of it is heard twice.
func TestWhateverTheOrder(t *testing.T) {
	for i, set := range heardSets() {
		of := asked(set)
		want := answers(heard(set...), of)
		inEachOrder(set, func(l []api.Term) {
			s := heard(l...)
			if got := answers(s, of); got != want {
				t.Errorf("set %d, %s: %s, not %s", i, texts(l), got, want)
			}
			for _, again := range l {
				s.Learn(again)
			}
			if got := answers(s, of); got != want {
				t.Errorf("set %d, all of them twice, %s: %s, not %s", i, texts(l), got, want)
			}
		})
	}
}

// TestAnyOfThemTwice, one heard again at each place there is.
func TestAnyOfThemTwice(t *testing.T) {
	for i, set := range heardSets() {
		of := asked(set)
		want := answers(heard(set...), of)
		inEachOrder(set, func(l []api.Term) {
			for _, p := range l {
				for at := range len(l) + 1 {
					if got := answers(heard(slices.Insert(slices.Clone(l), at, p)...), of); got != want {
						t.Fatalf("set %d, %s again at %d, %s: %s, not %s", i, term.Text(p), at, texts(l), got, want)
					}
				}
			}
		})
	}
}

func TestWhateverTheOrderByChance(t *testing.T) {
	r := rand.New(rand.NewSource(2))
	for range 1000 {
		set := someByChance(r, 2+r.Intn(10))
		of := asked(set)
		want := answers(heard(set...), of)
		// In one list, too, in which all of it comes at once.
		all := term.List(set...)
		if s := heard(all); s.Len() != heard(append(set, all)...).Len() && term.Valid(all) {
			t.Fatalf("in a list: %s", texts(set))
		}
		for range 6 {
			set = append(set, set[r.Intn(len(set))])
			r.Shuffle(len(set), func(i, k int) { set[i], set[k] = set[k], set[i] })
			if got := answers(heard(set...), of); got != want {
				t.Fatalf("%s: %s, not %s", texts(set), got, want)
			}
		}
	}
}

// noLess holds that one who heard more knows, and could make, all that the other one does.
func noLess(t *testing.T, less, more *know.Store, of []api.Term) {
	t.Helper()
	if less.Len() > more.Len() {
		t.Fatalf("%d terms, and then %d", less.Len(), more.Len())
	}
	for _, k := range less.Keys() {
		if !slices.ContainsFunc(more.Keys(), func(o api.Term) bool { return term.Same(k, o) }) {
			t.Fatalf("no more: %s", term.Text(k))
		}
	}
	for _, p := range of {
		if less.Knows(p) && !more.Knows(p) || less.Can(p) && !more.Can(p) {
			t.Fatalf("no more: %s", term.Text(p))
		}
	}
}

// TestMoreThatIsHeardGivesNoLess: each term that is heard, valid or not, to one who goes on, and to another one.
func TestMoreThatIsHeardGivesNoLess(t *testing.T) {
	r := rand.New(rand.NewSource(3))
	sets := heardSets()
	for range 600 {
		sets = append(sets, append(someByChance(r, 5), oddities()[r.Intn(len(oddities()))]))
	}
	for _, set := range sets {
		of := asked(set)
		for i := range set {
			noLess(t, heard(set[:i]...), heard(set[:i+1]...), of)
			noLess(t, heard(set[i]), heard(set...), of)
			noLess(t, heard(slices.Delete(slices.Clone(set), i, i+1)...), heard(set...), of)
		}
	}
}

// nothingNew holds that a term that could be made tells one who hears it nothing: all that is known of it could be made, and no more can be made than could.
func nothingNew(t *testing.T, set []api.Term, p api.Term, of []api.Term) {
	t.Helper()
	before, after := heard(set...), heard(append(slices.Clone(set), p)...)
	if !slices.EqualFunc(before.Keys(), after.Keys(), term.Same) {
		t.Fatalf("%s: keys %s, and then %s", term.Text(p), texts(before.Keys()), texts(after.Keys()))
	}
	for _, q := range append(term.Parts(p), of...) {
		if after.Knows(q) && !before.Can(q) || before.Can(q) != after.Can(q) {
			t.Fatalf("of %s: %s", term.Text(p), term.Text(q))
		}
	}
}

func TestWhatCouldBeMadeMakesNothingNew(t *testing.T) {
	r := rand.New(rand.NewSource(4))
	sets, made := heardSets(), 0
	for range 150 {
		sets = append(sets, someByChance(r, 4))
	}
	for _, set := range sets {
		of, s := append(asked(set), someByChance(r, 10)...), heard(set...)
		for _, p := range of {
			if s.Can(p) {
				nothingNew(t, set, p, of)
				made++
			}
		}
	}
	if made < 1000 {
		t.Errorf("only %d could be made", made)
	}
}
