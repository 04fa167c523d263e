package authz_test

import (
	"math"
	"testing"

	"legate/api"
	"legate/authz"
	"legate/term"
)

func TestReadOfWhatWasBuilt(t *testing.T) {
	for _, a := range []api.Auth{rich(), poor(), brink(), {User: "ann", Groups: []int{5}, Service: "web"}, {User: "ann", Transited: []string{"x"}, Service: "web", Origin: 1}} {
		for _, on := range []bool{false, true} {
			a.Forwardable = on
			for _, s := range keys() {
				reads(t, "a container", built(t, a, s, centre), &a)
				reads(t, "a container", built(t, a, centre, s), &a)
			}
		}
	}
}

// all are terms of all kinds, valid and not.
func all() []api.Term {
	return append(append(kinds(), keys()...), byHand(rich(), db, centre), authz.Data(rich()), authz.Data(api.Auth{}))
}

// TestReadWhateverTheSumsAre: what they are is not asked.
func TestReadWhateverTheSumsAre(t *testing.T) {
	for _, a := range []api.Auth{rich(), poor(), brink()} {
		for _, p := range all() {
			reads(t, "another server's sum", put(built(t, a, db, centre), p, 1), &a)
			reads(t, "another centre's sum", put(built(t, a, db, centre), p, 2), &a)
			for _, q := range all() {
				reads(t, "other sums", term.List(authz.Data(a), p, q), &a)
			}
		}
	}
}

// TestReadOfNoListOfThree: of none, fewer, and more, of other kinds, and with what a list must not have.
func TestReadOfNoListOfThree(t *testing.T) {
	x := built(t, rich(), db, centre)
	d, s, c := x.L[0], x.L[1], x.L[2]
	for _, p := range append(kinds(), keys()...) {
		reads(t, "no list", p, nil)
	}
	for _, l := range [][]api.Term{{}, {d}, {d, s}, {s, c}, {d, s, c, c}, {d, d, s, c}, {d, s, c, {}}, {s, d, c}, {s, c, d}, {c, d, s}, {x, s, c}, {term.List(d), s, c}, {d, s, c, d, s, c}, d.L, s.L} {
		reads(t, "another list", term.List(l...), nil)
	}
	reads(t, "its words alone", d, nil)
	reads(t, "a container in a list", term.List(x), nil)
	for _, k := range []api.TermKind{-1, api.TmName, api.TmNum, api.TmKey, api.TmSeal, api.TmSum, 6, api.TmList + 1<<32} {
		y := x
		y.K = k
		reads(t, "another kind", y, nil)
	}
	for _, name := range []string{"x", "ann", " ", "\x00"} {
		y := x
		y.S = name
		reads(t, "an S", y, nil)
	}
	for _, n := range []int{1, -1, 3, 1 << 32, math.MinInt, math.MaxInt} {
		y := x
		y.N = n
		reads(t, "an N", y, nil)
	}
}

// strange are forms of a part that it must not have, whatever it is: other kinds, other fields.
func strange(p api.Term) []api.Term {
	var l []api.Term
	for _, k := range []api.TermKind{-1, api.TmName, api.TmNum, api.TmKey, api.TmList, api.TmSeal, api.TmSum, 6, p.K + 1<<32} {
		if k != p.K {
			q := p
			q.K = k
			l = append(l, q, api.Term{K: k})
		}
	}
	q, r := p, p
	q.L = append(append([]api.Term(nil), p.L...), term.Key("x", 1))
	r.L = append([]api.Term{{}}, p.L...)
	l = append(l, q, r)
	if p.K != api.TmName {
		for _, s := range []string{"x", "\x00", "1"} {
			q := p
			q.S = s
			l = append(l, q)
		}
	}
	if p.K != api.TmNum {
		for _, n := range []int{1, -1, 1 << 32} {
			q := p
			q.N = n
			l = append(l, q)
		}
	}
	return append(l, term.Key("ann", 1), term.Seal(db, 1, p), term.Sum(db, 1, p), term.List(p), api.Term{K: 9})
}

// TestReadOfStrangeParts: each of Data's parts, and each thing in its lists, in all forms that it must not have.
func TestReadOfStrangeParts(t *testing.T) {
	for _, a := range []api.Auth{rich(), poor(), brink()} {
		x := built(t, a, db, centre)
		paths := [][]int{{0}}
		for i, p := range x.L[0].L {
			paths = append(paths, []int{0, i})
			for k := range p.L {
				paths = append(paths, []int{0, i, k})
			}
		}
		for _, path := range paths {
			p := x
			for _, i := range path {
				p = p.L[i]
			}
			for _, q := range strange(p) {
				if spell(q) == spell(p) {
					t.Fatalf("%s is not strange", brief(spell(q)))
				}
				reads(t, "a strange part", put(x, q, path...), nil)
			}
		}
	}
}

// TestReadOfNumbersThatMayNotBe in a container's words, and of those that may.
func TestReadOfNumbersThatMayNotBe(t *testing.T) {
	x := built(t, rich(), db, centre)
	for _, n := range []int{math.MinInt, -(1 << 32), -2, -1, 0, 1, 2, 3, 255, 256, 257, 1 << 32, 1<<32 + 1, 1<<40 - 1, 1 << 40, 1<<40 + 1, math.MaxInt} {
		if a := rich(); n == 0 || n == 1 {
			a.Origin = n
			reads(t, "an origin", put(x, term.Num(n), 0, 2), &a)
			a = rich()
			a.Forwardable = n == 1
			reads(t, "forwardable or not", put(x, term.Num(n), 0, 5), &a)
		} else {
			reads(t, "another origin", put(x, term.Num(n), 0, 2), nil)
			reads(t, "forwardable to more", put(x, term.Num(n), 0, 5), nil)
		}
		if a := rich(); n >= 0 && n <= 1<<40 {
			a.To = n
			reads(t, "a time", put(x, term.Num(n), 0, 6), &a)
		} else {
			reads(t, "a time that may not be", put(x, term.Num(n), 0, 6), nil)
		}
		a := rich()
		a.Groups[1] = n
		reads(t, "any group", put(x, term.Num(n), 0, 1, 1), &a)
	}
}

// TestReadOfListsInOtherPlaces: what one part may be another one may not.
func TestReadOfListsInOtherPlaces(t *testing.T) {
	x := built(t, rich(), db, centre)
	d := x.L[0].L
	for i := range d {
		for k := range d {
			if spell(d[i]) == spell(d[k]) || i != 1 && i != 3 && k != 1 && k != 3 && d[i].K == d[k].K {
				continue
			}
			reads(t, "a part in another one's place", put(x, d[k], 0, i), nil)
		}
	}
	for _, l := range [][]api.Term{{}, d[:1], d[:6], d[1:], append(d[:7:7], term.Num(0)), append(d[:7:7], d[6]), append([]api.Term{d[0]}, d...), append(d[:7:7], d...)} {
		reads(t, "one part less, or more", put(x, term.List(l...), 0), nil)
	}
	// Lists without things are alike, be they groups' or names'; those of others are not.
	a := rich()
	a.Groups, a.Transited = nil, nil
	reads(t, "lists without things", put(put(x, term.List(), 0, 1), api.Term{K: api.TmList, L: []api.Term{}}, 0, 3), &a)
	reads(t, "groups that are names", put(x, term.Row([]string{"7"}), 0, 1), nil)
	reads(t, "names that are numbers", put(x, term.List(term.Num(7)), 0, 3), nil)
	reads(t, "a number among names", put(x, term.List(term.Of("web"), term.Num(7)), 0, 3), nil)
	reads(t, "a name among numbers", put(x, term.List(term.Num(7), term.Of("web")), 0, 1), nil)
	reads(t, "a list among names", put(x, term.List(term.Of("web"), term.List()), 0, 3), nil)
	reads(t, "a list among numbers", put(x, term.List(term.List(), term.Num(7)), 0, 1), nil)
}

// TestReadOfTermsThatEndNowhere, and of those that are very great.
func TestReadOfTermsThatEndNowhere(t *testing.T) {
	ring := api.Term{K: api.TmList, L: make([]api.Term, 1)}
	ring.L[0] = ring
	round := api.Term{K: api.TmList, L: make([]api.Term, 3)}
	round.L[0] = round
	x := built(t, rich(), db, centre)
	for _, p := range []api.Term{ring, round} {
		reads(t, "a ring", p, nil)
		reads(t, "a ring of words", put(x, p, 0), nil)
		for i := range 7 {
			reads(t, "a ring in its words", put(x, p, 0, i), nil)
		}
		a := rich()
		reads(t, "rings for sums", term.List(x.L[0], p, p), &a)
		got, e := authz.Server(put(x, p, 1), db)
		refuses(t, "a ring for a sum", got, e, api.ErrSum)
		got, e = authz.Verify(put(x, p, 2), db, centre)
		refuses(t, "a ring for the centre's sum", got, e, api.ErrSum)
	}
	self := api.Term{K: api.TmKey, S: "db", N: 2, L: make([]api.Term, 1)}
	self.L[0] = self
	if _, e := authz.Build(rich(), self, self); e != api.OK {
		t.Error(e)
	}
	refusesToBuild(t, "a ring for a key", rich(), ring, self)
	got, e := authz.Server(x, self)
	refuses(t, "a key that holds itself", got, e, api.ErrSum)
}
