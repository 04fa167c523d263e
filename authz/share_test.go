package authz_test

import (
	"slices"
	"testing"

	"legate/api"
	"legate/authz"
	"legate/term"
)

// roomy is a list that has others behind its end, which are another one's.
func roomy[T any](l []T, behind ...T) []T {
	return slices.Concat(l, behind)[:len(l)]
}

// inRoom is a term whose lists, at all levels, have something behind their ends.
func inRoom(x api.Term) api.Term {
	l := slices.Clone(x.L)
	for i := range l {
		l[i] = inRoom(l[i])
	}
	x.L = roomy(l, term.Of("behind"), term.Num(5))
	return x
}

// spoil changes all that words hold, and what is behind their ends.
func spoil(a api.Auth) {
	names, groups := a.Transited[:cap(a.Transited)], a.Groups[:cap(a.Groups)]
	for i := range names {
		names[i] = "spoilt"
	}
	for i := range groups {
		groups[i] = -99
	}
}

// spoilTerm changes all that is in a term, and what is behind the ends of its lists.
func spoilTerm(x api.Term) {
	for _, p := range x.L[:cap(x.L)] {
		spoilTerm(p)
	}
	for i := range x.L[:cap(x.L)] {
		x.L[:cap(x.L)][i] = api.Term{K: 77, S: "spoilt", N: -99}
	}
}

// TestDataIsNotShared with the words, nor with what another call answers.
func TestDataIsNotShared(t *testing.T) {
	a := rich()
	a.Groups, a.Transited = roomy(a.Groups, 3, 4), roomy(a.Transited, "x")
	d, other := authz.Data(a), authz.Data(a)
	want := spell(authz.Data(rich()))
	spoil(a)
	if spell(d) != want || spell(other) != want {
		t.Errorf("%s, %s, not %s", brief(spell(d)), brief(spell(other)), brief(want))
	}
	a = rich()
	d = authz.Data(a)
	spoilTerm(d)
	if spell(other) != want || tell(a) != tell(rich()) {
		t.Errorf("%s, %s", brief(spell(other)), tell(a))
	}
}

// TestBuildIsNotShared with the words, the keys, or what another call answers.
func TestBuildIsNotShared(t *testing.T) {
	key := func(owner string) api.Term {
		return inRoom(api.Term{K: api.TmKey, S: owner, N: 1, L: []api.Term{term.Of("x"), term.List(term.Num(1), term.List(db))}})
	}
	for _, twice := range []bool{false, true} {
		a := rich()
		a.Groups, a.Transited = roomy(a.Groups, 3, 4), roomy(a.Transited, "x")
		s, c := key("db"), key("centre")
		if twice {
			c = s
		}
		x, other := built(t, a, s, c), built(t, a, s, c)
		want, words, first, second := spell(x), tell(a), spell(s), spell(c)
		if spell(other) != want || want != spell(byHand(a, s, c)) {
			t.Errorf("%s, %s", brief(want), brief(spell(other)))
		}
		spoilTerm(x)
		if spell(other) != want || tell(a) != words || spell(s) != first || spell(c) != second {
			t.Error("what was answered changed what was handed in")
		}
		spoil(a)
		spoilTerm(s)
		spoilTerm(c)
		if spell(other) != want {
			t.Error("what was handed in changed what was answered")
		}
	}
}

// TestBuildsListsAreUnlike: no two lists of a container are one, so that who changes one place of it changes no other.
func TestBuildsListsAreUnlike(t *testing.T) {
	key := api.Term{K: api.TmKey, S: "db", N: 1, L: []api.Term{term.Of("x"), term.List(db)}}
	seen := map[*api.Term]bool{}
	for range 3 {
		for _, p := range term.Parts(built(t, rich(), key, key)) {
			if cap(p.L) == 0 {
				continue
			}
			if at := &p.L[:cap(p.L)][0]; seen[at] {
				t.Errorf("twice: %s", brief(spell(p)))
			} else {
				seen[at] = true
			}
		}
	}
	// The container, its words three times with two lists each, three sums, and three keys with a list each.
	if len(seen) != 3*(1+3*3+3+3*2) {
		t.Errorf("%d lists", len(seen))
	}
}

// TestReadIsNotShared with the container, nor with what another call answers.
func TestReadIsNotShared(t *testing.T) {
	for _, read := range []func(x api.Term) (api.Auth, api.Errno){
		authz.Read,
		func(x api.Term) (api.Auth, api.Errno) { return authz.Server(x, db) },
		func(x api.Term) (api.Auth, api.Errno) { return authz.Verify(x, db, centre) },
	} {
		for _, from := range []func() api.Auth{rich, poor, brink} {
			x := inRoom(built(t, from(), db, centre))
			was := spell(x)
			a, e := read(x)
			tells(t, "the first one", a, e, from())
			b, e := read(x)
			tells(t, "the second one", b, e, from())
			spoil(a)
			_, _ = append(a.Groups, 1), append(a.Transited, "x")
			tells(t, "another one", b, api.OK, from())
			if spell(x) != was {
				t.Error("the container was changed")
			}
			c, e := read(x)
			tells(t, "a later one", c, e, from())
			spoilTerm(x)
			tells(t, "one that was read ahead", b, api.OK, from())
			tells(t, "one that was read ahead", c, api.OK, from())
		}
	}
}

// TestNothingIsChanged of what is handed in, nor what is behind the ends of its lists.
func TestNothingIsChanged(t *testing.T) {
	a := rich()
	a.Groups, a.Transited = roomy(a.Groups, 3, 4), roomy(a.Transited, "x", "y")
	key := func(owner string) api.Term {
		return inRoom(api.Term{K: api.TmKey, S: owner, N: 1, L: []api.Term{term.Of("x"), term.List(db)}})
	}
	s, c := key("db"), key("centre")
	whole := func(x api.Term) string {
		for i := range x.L[:cap(x.L)] {
			x.L = x.L[:max(len(x.L), i+1)]
		}
		return spell(x)
	}
	x := inRoom(built(t, rich(), s, c))
	was := []string{whole(s), whole(c), whole(x), whole(x.L[0]), whole(x.L[1]), whole(x.L[2]), whole(x.L[0].L[1]), whole(x.L[0].L[3])}
	for range 2 {
		authz.Valid(a)
		authz.Same(a, a)
		authz.Data(a)
		built(t, a, s, c)
		authz.Read(x)
		authz.Server(x, s)
		authz.Verify(x, s, c)
		authz.Verify(x, c, s)
		authz.Read(put(x, s, 0))
		is := []string{whole(s), whole(c), whole(x), whole(x.L[0]), whole(x.L[1]), whole(x.L[2]), whole(x.L[0].L[1]), whole(x.L[0].L[3])}
		if !slices.Equal(was, is) {
			t.Errorf("%s was %s", brief(is), brief(was))
		}
		if tell(a) != tell(rich()) || !slices.Equal(a.Groups[:4], []int{7, -1, 3, 4}) || !slices.Equal(a.Transited[:4], []string{"web", "app", "x", "y"}) {
			t.Errorf("%s, %v, %q", tell(a), a.Groups[:4], a.Transited[:4])
		}
	}
}
