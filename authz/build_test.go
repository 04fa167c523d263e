package authz_test

import (
	"math"
	"testing"

	"legate/api"
	"legate/authz"
	"legate/term"
)

// kinds are terms that are no keys, though some would look like one.
func kinds() []api.Term {
	return []api.Term{
		{}, term.Of("db"), term.Of(api.Centre), term.Num(0), term.Num(2), term.List(), term.List(db), term.List(centre, db),
		term.Seal(db, 2, centre), term.Seal(centre, api.UseCentre, db), term.Sum(db, api.UseServer, centre), term.Sum(centre, 1, db),
		{K: api.TmName, S: "db", N: 2}, {K: api.TmNum, S: "db", N: 2}, {K: api.TmList, S: "db", N: 2}, {K: api.TmSeal, S: "db", N: 2}, {K: api.TmSum, S: "db", N: 2},
		{K: -1, S: "db", N: 2}, {K: 6, S: "db", N: 2}, {K: math.MaxInt, S: "db", N: 2}, {K: math.MinInt, S: "db", N: 2}, {K: api.TmKey + 1<<32, S: "db", N: 2},
	}
}

// keys are terms that are keys, be they valid or not, no two of them the same.
func keys() []api.Term {
	return []api.Term{
		db, centre, session, term.Key("db", 1), term.Key("db", 3), term.Key("d", 2), term.Key("db2", 2), term.Key("", 1), term.Key("", 2), term.Key(api.Centre, 2),
		{K: api.TmKey}, {K: api.TmKey, S: "db"}, {K: api.TmKey, S: "A", N: 2}, {K: api.TmKey, S: "db", N: -2}, {K: api.TmKey, S: "db", N: 2 + 1<<32}, {K: api.TmKey, S: "db", N: math.MaxInt},
		{K: api.TmKey, S: "db", N: 2, L: []api.Term{term.Of("x")}}, {K: api.TmKey, S: "db", N: 2, L: []api.Term{term.Of("x"), db}},
	}
}

func TestBuildIsAListOfThree(t *testing.T) {
	data := "[ann [7 -1] 1 [web app] db 1 500]"
	x := built(t, rich(), db, centre)
	want := "[" + data + " sum(key(db 2) 18 " + data + ") sum(key(centre 1) 19 sum(key(db 2) 18 " + data + "))]"
	if got := term.Text(x); got != want {
		t.Errorf("%s, not %s", got, want)
	}
	x = built(t, poor(), session, term.Key("", 8))
	if got := term.Text(x); got != "[[a [] 0 [] b 0 0] sum(key( 7) 18 [a [] 0 [] b 0 0]) sum(key( 8) 19 sum(key( 7) 18 [a [] 0 [] b 0 0]))]" {
		t.Error(got)
	}
}

// byHand is a container, each field of which is laid here.
func byHand(a api.Auth, server, centre api.Term) api.Term {
	sum := api.Term{K: api.TmSum, N: 18, L: []api.Term{server, authz.Data(a)}}
	return api.Term{K: api.TmList, L: []api.Term{authz.Data(a), sum, {K: api.TmSum, N: 19, L: []api.Term{centre, sum}}}}
}

// TestBuildWithEachKey: with any two keys it is that list, in each of its fields, and it is verified with these two alone.
func TestBuildWithEachKey(t *testing.T) {
	for _, a := range []api.Auth{rich(), poor(), brink()} {
		for i, s := range keys() {
			for k, c := range keys() {
				x := built(t, a, s, c)
				if got, want := spell(x), spell(byHand(a, s, c)); got != want {
					t.Errorf("%s, not %s", brief(got), brief(want))
				}
				got, e := authz.Verify(x, s, c)
				tells(t, "Verify", got, e, a)
				for n, other := range keys() {
					got, e = authz.Server(x, other)
					if n == i {
						tells(t, "Server", got, e, a)
					} else {
						refuses(t, "Server", got, e, api.ErrSum)
					}
					if n != k {
						got, e = authz.Verify(x, s, other)
						refuses(t, "Verify with another centre's", got, e, api.ErrSum)
					}
				}
			}
		}
	}
}

func TestBuildIsValid(t *testing.T) {
	for _, a := range []api.Auth{rich(), poor(), brink()} {
		for _, s := range []api.Term{db, centre, session} {
			for _, c := range []api.Term{db, centre, session} {
				if x := built(t, a, s, c); !term.Valid(x) {
					t.Error(brief(term.Text(x)))
				}
			}
		}
	}
}

func TestBuildWithWhatIsNoKey(t *testing.T) {
	for _, a := range []api.Auth{rich(), poor(), brink()} {
		for _, p := range kinds() {
			for _, k := range []api.Term{db, centre, session} {
				refusesToBuild(t, "no server's key", a, p, k)
				refusesToBuild(t, "no centre's key", a, k, p)
			}
			refusesToBuild(t, "no key at all", a, p, p)
		}
	}
}

// TestBuildOfWhatIsNotValid, with keys and without.
func TestBuildOfWhatIsNotValid(t *testing.T) {
	for _, set := range []func(a *api.Auth){
		func(a *api.Auth) { a.User = "" },
		func(a *api.Auth) { a.Service = "A" },
		func(a *api.Auth) { a.Origin = 2 },
		func(a *api.Auth) { a.Origin = -1 },
		func(a *api.Auth) { a.To = -1 },
		func(a *api.Auth) { a.To = 1<<40 + 1 },
		func(a *api.Auth) { a.Transited = []string{"web", "", "app"} },
		func(a *api.Auth) { a.Transited = make([]string, 9) },
		func(a *api.Auth) { a.Groups = make([]int, 21) },
	} {
		a := rich()
		set(&a)
		for _, s := range keys() {
			refusesToBuild(t, "not valid", a, s, centre)
			refusesToBuild(t, "not valid", a, s, s)
		}
		for _, p := range kinds() {
			refusesToBuild(t, "not valid, no server's key", a, p, centre)
			refusesToBuild(t, "not valid, no centre's key", a, db, p)
			refusesToBuild(t, "not valid, no keys", a, p, p)
		}
	}
	refusesToBuild(t, "zero words", api.Auth{}, db, centre)
	refusesToBuild(t, "nothing at all", api.Auth{}, api.Term{}, api.Term{})
}
