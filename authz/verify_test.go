package authz_test

import (
	"slices"
	"testing"

	"legate/api"
	"legate/authz"
	"legate/term"
)

// verifies holds that both sums are right.
func verifies(t *testing.T, x, server, centre api.Term, want api.Auth) {
	t.Helper()
	a, e := authz.Server(x, server)
	tells(t, "Server", a, e, want)
	a, e = authz.Verify(x, server, centre)
	tells(t, "Verify", a, e, want)
}

// serversSumIsWrong holds that the server's sum is not right, whatever the centre's key is.
func serversSumIsWrong(t *testing.T, what string, x, server api.Term) {
	t.Helper()
	a, e := authz.Server(x, server)
	refuses(t, "Server, "+what, a, e, api.ErrSum)
	for _, c := range []api.Term{centre, db, session, server, term.Of("x"), {}} {
		a, e = authz.Verify(x, server, c)
		refuses(t, "Verify, "+what, a, e, api.ErrSum)
	}
}

// centresSumIsWrong holds that the server's sum is right, and the centre's is not.
func centresSumIsWrong(t *testing.T, what string, x, server, centre api.Term, want api.Auth) {
	t.Helper()
	a, e := authz.Server(x, server)
	tells(t, "Server, "+what, a, e, want)
	a, e = authz.Verify(x, server, centre)
	refuses(t, "Verify, "+what, a, e, api.ErrSum)
}

func TestWhatIsBuiltIsVerified(t *testing.T) {
	for _, a := range []api.Auth{rich(), poor(), brink()} {
		for _, s := range keys() {
			for _, c := range keys() {
				verifies(t, built(t, a, s, c), s, c, a)
				verifies(t, byHand(a, s, c), s, c, a)
			}
			verifies(t, built(t, a, s, s), s, s, a)
		}
	}
}

// TestVerifyWithOtherKeys: another one's, another version, the two of them the other way round, and one key for both.
func TestVerifyWithOtherKeys(t *testing.T) {
	x := built(t, rich(), db, centre)
	for _, k := range keys() {
		if !term.Same(k, db) {
			serversSumIsWrong(t, "another key", x, k)
		}
		if !term.Same(k, centre) {
			centresSumIsWrong(t, "another key", x, db, k, rich())
		}
	}
	both := built(t, rich(), db, db)
	verifies(t, both, db, db, rich())
	centresSumIsWrong(t, "one key for both", both, db, centre, rich())
	serversSumIsWrong(t, "one key for both", both, centre)
}

func TestVerifyWithWhatIsNoKey(t *testing.T) {
	x := built(t, rich(), db, centre)
	for _, p := range kinds() {
		serversSumIsWrong(t, "no key", x, p)
		centresSumIsWrong(t, "no key", x, db, p, rich())
		// Not even if the sums are made with that.
		serversSumIsWrong(t, "sums by no key", byHand(rich(), p, centre), p)
		serversSumIsWrong(t, "sums by no key", byHand(rich(), p, p), p)
		centresSumIsWrong(t, "a centre's sum by no key", byHand(rich(), db, p), db, p, rich())
	}
}

// otherWords are words that are valid, and differ from rich ones in one thing.
func otherWords() []api.Auth {
	var l []api.Auth
	for _, set := range []func(a *api.Auth){
		func(a *api.Auth) { a.User = "bob" },
		func(a *api.Auth) { a.User = "anna" },
		func(a *api.Auth) { a.Groups = []int{7} },
		func(a *api.Auth) { a.Groups = []int{-1, 7} },
		func(a *api.Auth) { a.Groups = []int{7, -1, 0} },
		func(a *api.Auth) { a.Groups = []int{7, 1} },
		func(a *api.Auth) { a.Groups = nil },
		func(a *api.Auth) { a.Origin = api.OriginLogin },
		func(a *api.Auth) { a.Transited = []string{"web"} },
		func(a *api.Auth) { a.Transited = []string{"app", "web"} },
		func(a *api.Auth) { a.Transited = []string{"web", "app", "app"} },
		func(a *api.Auth) { a.Transited = []string{"web", "ap"} },
		func(a *api.Auth) { a.Transited = nil },
		func(a *api.Auth) { a.Service = "web" },
		func(a *api.Auth) { a.Service = "d" },
		func(a *api.Auth) { a.Forwardable = false },
		func(a *api.Auth) { a.To = 501 },
		func(a *api.Auth) { a.To = 1 << 40 },
	} {
		a := rich()
		set(&a)
		l = append(l, a)
	}
	return l
}

// TestOtherWordsBehindTheSums: they are read, but no key verifies them.
func TestOtherWordsBehindTheSums(t *testing.T) {
	x := built(t, rich(), db, centre)
	for _, a := range otherWords() {
		y := put(x, authz.Data(a), 0)
		reads(t, "other words", y, &a)
		for _, s := range keys() {
			serversSumIsWrong(t, "other words", y, s)
		}
		// One who has the server's key can make its sum anew, but not the centre's.
		y = put(y, term.Sum(db, api.UseServer, authz.Data(a)), 1)
		centresSumIsWrong(t, "the server's sum alone made anew", y, db, centre, a)
		y = put(y, term.Sum(db, api.UseCentre, y.L[1]), 2)
		centresSumIsWrong(t, "the server's key for the centre's sum", y, db, centre, a)
		y = put(y, term.Sum(centre, api.UseCentre, y.L[1]), 2)
		verifies(t, y, db, centre, a)
		serversSumIsWrong(t, "the other one's sums", put(put(x, y.L[1], 1), y.L[2], 2), db)
		centresSumIsWrong(t, "the other one's sum", put(x, y.L[2], 2), db, centre, rich())
	}
}

// TestServersSumChanged in any of its fields.
func TestServersSumChanged(t *testing.T) {
	x := built(t, rich(), db, centre)
	d := x.L[0]
	others := []api.Term{
		{}, d, db, x.L[2], term.List(), term.Seal(db, api.UseServer, d), term.Sum(db, api.UseCentre, d), term.Sum(db, api.UseServer+1, d), term.Sum(db, 0, d), term.Sum(db, api.UseServer+1<<32, d),
		term.Sum(term.Key("db", 1), api.UseServer, d), term.Sum(centre, api.UseServer, d), term.Sum(term.Of("db"), api.UseServer, d),
		term.Sum(db, api.UseServer, d.L[0]), term.Sum(db, api.UseServer, term.List(d)), term.Sum(db, api.UseServer, term.List(d.L[:6]...)), term.Sum(db, api.UseServer, x.L[1]),
		term.List(x.L[1]), {K: api.TmSum, N: api.UseServer}, {K: api.TmSum, N: api.UseServer, L: []api.Term{db}}, {K: api.TmSum, N: api.UseServer, L: []api.Term{d, db}}, {K: api.TmSum, N: api.UseServer, L: []api.Term{db, d, d}},
		{K: api.TmSum, S: "x", N: api.UseServer, L: []api.Term{db, d}}, {K: api.TmList, N: api.UseServer, L: []api.Term{db, d}},
	}
	for _, a := range otherWords() {
		others = append(others, term.Sum(db, api.UseServer, authz.Data(a)))
	}
	for _, p := range others {
		serversSumIsWrong(t, "another server's sum", put(x, p, 1), db)
		serversSumIsWrong(t, "another server's sum, summed by the centre", put(put(x, p, 1), term.Sum(centre, api.UseCentre, p), 2), db)
	}
}

// TestCentresSumChanged in any of its fields.
func TestCentresSumChanged(t *testing.T) {
	x := built(t, rich(), db, centre)
	s := x.L[1]
	others := []api.Term{
		{}, s, centre, x.L[0], term.List(), term.Seal(centre, api.UseCentre, s), term.Sum(centre, api.UseServer, s), term.Sum(centre, api.UseCentre+1, s), term.Sum(centre, 0, s), term.Sum(centre, api.UseCentre+1<<32, s),
		term.Sum(term.Key(api.Centre, 2), api.UseCentre, s), term.Sum(db, api.UseCentre, s), term.Sum(term.Of(api.Centre), api.UseCentre, s),
		term.Sum(centre, api.UseCentre, x.L[0]), term.Sum(centre, api.UseCentre, term.List(s)), term.Sum(centre, api.UseCentre, x.L[2]), term.Sum(centre, api.UseCentre, term.List(x.L[0], s)),
		term.List(x.L[2]), {K: api.TmSum, N: api.UseCentre}, {K: api.TmSum, N: api.UseCentre, L: []api.Term{centre}}, {K: api.TmSum, N: api.UseCentre, L: []api.Term{s, centre}}, {K: api.TmSum, N: api.UseCentre, L: []api.Term{centre, s, s}},
		{K: api.TmSum, S: "x", N: api.UseCentre, L: []api.Term{centre, s}}, {K: api.TmList, N: api.UseCentre, L: []api.Term{centre, s}},
		term.Sum(centre, api.UseCentre, term.Sum(db, api.UseCentre, x.L[0])), term.Sum(centre, api.UseCentre, term.Seal(db, api.UseServer, x.L[0])), term.Sum(centre, api.UseCentre, term.Sum(term.Key("db", 1), api.UseServer, x.L[0])),
	}
	for _, a := range otherWords() {
		others = append(others, term.Sum(centre, api.UseCentre, term.Sum(db, api.UseServer, authz.Data(a))))
	}
	for _, p := range others {
		centresSumIsWrong(t, "another centre's sum", put(x, p, 2), db, centre, rich())
	}
}

// TestWhatIsWrongFirst is told first: the shape ahead of the sums, whatever the sums and the keys are.
func TestWhatIsWrongFirst(t *testing.T) {
	x := built(t, rich(), db, centre)
	bad := authz.Data(api.Auth{User: "A", Service: "db"})
	for _, p := range []api.Term{
		put(x, bad, 0), byHand(api.Auth{User: "A", Service: "db"}, db, centre), put(put(x, bad, 0), term.Of("x"), 1), put(put(x, bad, 0), term.Of("x"), 2),
		term.List(x.L[:2]...), term.List(append(slices.Clone(x.L), x.L[2])...), term.List(x.L[1:]...), {}, db,
	} {
		reads(t, "another shape", p, nil)
	}
	for _, s := range []api.Term{centre, term.Of("db"), {}} {
		serversSumIsWrong(t, "no sum of that key", x, s)
		serversSumIsWrong(t, "no sums of these keys", put(x, term.Of("x"), 2), s)
	}
}

// TestSumsThatShareTheirWords with the container: it is read and verified as any other one is.
func TestSumsThatShareTheirWords(t *testing.T) {
	d := authz.Data(rich())
	s := term.Sum(db, api.UseServer, d)
	verifies(t, term.List(d, s, term.Sum(centre, api.UseCentre, s)), db, centre, rich())
}
