package authz_test

import (
	"math/rand"
	"strings"
	"sync"
	"testing"

	"legate/api"
	"legate/authz"
	"legate/term"
)

// slowName tells whether a text is a name, by the sentence of chapter 8.
func slowName(s string) bool {
	return len(s) >= 1 && len(s) <= 40 && strings.Trim(s, "abcdefghijklmnopqrstuvwxyz0123456789-./") == ""
}

// slowValid is the chapter's sentence, each of its parts by itself.
func slowValid(a api.Auth) bool {
	for _, n := range append([]string{a.User, a.Service}, a.Transited...) {
		if !slowName(n) {
			return false
		}
	}
	if len(a.Groups) > 20 || len(a.Transited) > 8 {
		return false
	}
	if a.Origin != 0 && a.Origin != 1 {
		return false
	}
	return 0 <= a.To && a.To <= 1099511627776
}

func slowData(a api.Auth) api.Term {
	var groups, names []api.Term
	for _, g := range a.Groups {
		groups = append(groups, api.Term{K: api.TmNum, N: g})
	}
	for _, n := range a.Transited {
		names = append(names, api.Term{K: api.TmName, S: n})
	}
	forwardable := map[bool]int{true: 1}[a.Forwardable]
	return api.Term{K: api.TmList, L: []api.Term{
		{K: api.TmName, S: a.User}, {K: api.TmList, L: groups}, {K: api.TmNum, N: a.Origin}, {K: api.TmList, L: names},
		{K: api.TmName, S: a.Service}, {K: api.TmNum, N: forwardable}, {K: api.TmNum, N: a.To},
	}}
}

func slowSum(key api.Term, use int, body api.Term) api.Term {
	return api.Term{K: api.TmSum, N: use, L: []api.Term{key, body}}
}

func slowBuild(a api.Auth, server, centre api.Term) (api.Term, api.Errno) {
	if !slowValid(a) || server.K != 2 || centre.K != 2 {
		return api.Term{}, 1
	}
	s := slowSum(server, 18, slowData(a))
	return api.Term{K: api.TmList, L: []api.Term{slowData(a), s, slowSum(centre, 19, s)}}, 0
}

// isWord tells whether a term is just a name, or just a number.
func isWord(p api.Term, k api.TermKind) bool {
	return p.K == k && len(p.L) == 0 && (k == api.TmName && p.N == 0 || k == api.TmNum && p.S == "")
}

// isRow tells whether a term is just a list, of names or of numbers alone.
func isRow(p api.Term, k api.TermKind) bool {
	for _, q := range p.L {
		if !isWord(q, k) {
			return false
		}
	}
	return p.K == api.TmList && p.S == "" && p.N == 0
}

// slowRead looks at each field by itself.
func slowRead(x api.Term) (api.Auth, api.Errno) {
	if x.K != api.TmList || x.S != "" || x.N != 0 || len(x.L) != 3 {
		return api.Auth{}, 50
	}
	d := x.L[0]
	if d.K != api.TmList || d.S != "" || d.N != 0 || len(d.L) != 7 {
		return api.Auth{}, 50
	}
	p := d.L
	if !isWord(p[0], api.TmName) || !isRow(p[1], api.TmNum) || !isWord(p[2], api.TmNum) || !isRow(p[3], api.TmName) || !isWord(p[4], api.TmName) || !isWord(p[5], api.TmNum) || !isWord(p[6], api.TmNum) {
		return api.Auth{}, 50
	}
	a := api.Auth{User: p[0].S, Origin: p[2].N, Service: p[4].S, Forwardable: p[5].N != 0, To: p[6].N}
	for _, q := range p[1].L {
		a.Groups = append(a.Groups, q.N)
	}
	for _, q := range p[3].L {
		a.Transited = append(a.Transited, q.S)
	}
	if !slowValid(a) || p[5].N != 0 && p[5].N != 1 {
		return api.Auth{}, 50
	}
	return a, 0
}

func slowServer(x, server api.Term) (api.Auth, api.Errno) {
	a, e := slowRead(x)
	if e == 0 && (server.K != 2 || spell(x.L[1]) != spell(slowSum(server, 18, x.L[0]))) {
		return api.Auth{}, 62
	}
	return a, e
}

func slowVerify(x, server, centre api.Term) (api.Auth, api.Errno) {
	a, e := slowServer(x, server)
	if e == 0 && (centre.K != 2 || spell(x.L[2]) != spell(slowSum(centre, 19, x.L[1]))) {
		return api.Auth{}, 62
	}
	return a, e
}

// chance makes words, keys and containers of few things, so that they meet.
type chance struct{ *rand.Rand }

func by(seed int64) chance { return chance{rand.New(rand.NewSource(seed))} }

func (r chance) name() string {
	l := []string{"ann", "web", "db", "a", "b", strings.Repeat("z", 40)}
	if r.Intn(60) == 0 {
		l = []string{"", "A", strings.Repeat("z", 41), "a b", "1", "-"}
	}
	return l[r.Intn(len(l))]
}

func (r chance) number() int {
	l := []int{0, 1, 0, 1, 7, -1, 500, 1 << 40, 1<<40 + 1, 2, 18, 19}
	return l[r.Intn(len(l))]
}

func (r chance) size(most int) int {
	if r.Intn(12) == 0 {
		return most - 1 + r.Intn(3)
	}
	return r.Intn(3)
}

func (r chance) auth() api.Auth {
	a := api.Auth{User: r.name(), Service: r.name(), Origin: r.Intn(2), Forwardable: r.Intn(2) == 0, To: r.Intn(3)}
	for range r.size(20) {
		a.Groups = append(a.Groups, r.number())
	}
	for range r.size(8) {
		a.Transited = append(a.Transited, r.name())
	}
	switch r.Intn(12) {
	case 0:
		a.Origin = r.number()
	case 1, 2:
		a.To = r.number()
	}
	return a
}

func (r chance) key() api.Term {
	l := []api.Term{db, db, centre, centre, session, term.Key("db", 1), term.Of("db"), {}}
	return l[r.Intn(len(l))]
}

// part is any part of a term.
func (r chance) part(x api.Term) api.Term {
	l := term.Parts(x)
	return l[r.Intn(len(l))]
}

// twist is a term of which one part is another one.
func (r chance) twist(x api.Term) api.Term {
	var path []int
	for p := x; len(p.L) > 0 && r.Intn(5) > 0; {
		i := r.Intn(len(p.L))
		path, p = append(path, i), p.L[i]
	}
	return changed(x, func(p api.Term) api.Term {
		switch r.Intn(8) {
		case 0:
			p.K = api.TermKind(r.Intn(7))
		case 1:
			p.S = r.name()
		case 2, 3:
			p.N = r.number()
		case 4:
			p.L = append(append([]api.Term(nil), p.L...), r.part(x))
		case 5:
			if n := len(p.L); n > 0 {
				p.L = p.L[:n-1]
			}
		case 6:
			l := append([]api.Term(nil), p.L...)
			r.Shuffle(len(l), func(i, k int) { l[i], l[k] = l[k], l[i] })
			p.L = l
		default:
			p = r.part(x)
		}
		return p
	}, path...)
}

// container is one that was built, or what became of it: sums made anew, parts of another one, and twists.
func (r chance) container(s, c api.Term) api.Term {
	x, _ := slowBuild(r.auth(), s, c)
	if r.Intn(6) == 0 {
		x = slowTriple(r.auth(), s, c)
	}
	if len(x.L) == 3 && r.Intn(3) == 0 {
		y := slowTriple(r.auth(), r.key(), r.key())
		i := r.Intn(3)
		x = put(x, y.L[i], i)
	}
	for range r.Intn(3) * r.Intn(2) {
		x = r.twist(x)
	}
	if len(x.L) == 3 && r.Intn(6) == 0 {
		x = put(x, slowSum(s, 18, x.L[0]), 1)
	}
	if len(x.L) == 3 && r.Intn(6) == 0 {
		x = put(x, slowSum(c, 19, x.L[1]), 2)
	}
	return x
}

// slowTriple is what Build would hand back, be all of it valid or not.
func slowTriple(a api.Auth, server, centre api.Term) api.Term {
	s := slowSum(server, 18, slowData(a))
	return api.Term{K: api.TmList, L: []api.Term{slowData(a), s, slowSum(centre, 19, s)}}
}

// answer tells what a call answered as a text.
func answer(a api.Auth, e api.Errno) string { return e.Error() + ": " + tell(a) }

// met holds that each of these was answered often: else the calls of chance would tell nothing of it.
func met(t *testing.T, seen map[string]int, l ...string) {
	t.Helper()
	for _, w := range l {
		if seen[w] < 100 {
			t.Errorf("%s: %d times alone", w, seen[w])
		}
	}
}

func TestWordsLikeTheChaptersSentences(t *testing.T) {
	r, seen := by(1), map[string]int{}
	for range 15000 {
		a, b, s, c := r.auth(), r.auth(), r.key(), r.key()
		if r.Intn(4) == 0 {
			b = a
			others()[r.Intn(len(others()))](&b)
		}
		if authz.Valid(a) != slowValid(a) {
			t.Fatalf("valid, or not: %s", brief(tell(a)))
		}
		if got, want := spell(authz.Data(a)), spell(slowData(a)); got != want {
			t.Fatalf("%s, not %s", brief(got), brief(want))
		}
		if authz.Same(a, b) != (tell(a) == tell(b)) || authz.Same(b, a) != (tell(a) == tell(b)) || !authz.Same(a, a) {
			t.Fatalf("same, or not: %s, %s", brief(tell(a)), brief(tell(b)))
		}
		x, e := authz.Build(a, s, c)
		want, f := slowBuild(a, s, c)
		if e != f || spell(x) != spell(want) {
			t.Fatalf("%v, %s, not %v, %s", e, brief(spell(x)), f, brief(spell(want)))
		}
		seen["Build: "+e.Error()]++
		if e == api.OK {
			verifies(t, x, s, c, a)
		}
		if len(a.Transited) == 8 && e == api.OK {
			seen["at the limit of services"]++
		}
		if len(a.Groups) == 20 && e == api.OK {
			seen["at the limit of groups"]++
		}
	}
	met(t, seen, "Build: error 0", "Build: error 1", "at the limit of services", "at the limit of groups")
}

func TestContainersLikeTheChaptersSentences(t *testing.T) {
	r, seen := by(2), map[string]int{}
	for range 30000 {
		s, c := r.key(), r.key()
		x := r.container(s, c)
		if r.Intn(4) == 0 {
			s = r.key()
		}
		if r.Intn(4) == 0 {
			c = r.key()
		}
		for _, p := range []struct{ call, got, want string }{
			{"Read", answer(authz.Read(x)), answer(slowRead(x))},
			{"Server", answer(authz.Server(x, s)), answer(slowServer(x, s))},
			{"Verify", answer(authz.Verify(x, s, c)), answer(slowVerify(x, s, c))},
		} {
			if p.got != p.want {
				t.Fatalf("%s of %s: %s, not %s", p.call, brief(spell(x)), brief(p.got), brief(p.want))
			}
			e, _, _ := strings.Cut(p.want, ":")
			seen[p.call+": "+e]++
		}
	}
	met(t, seen, "Read: error 0", "Read: error 50", "Server: error 0", "Server: error 50", "Server: error 62", "Verify: error 0", "Verify: error 50", "Verify: error 62")
	if seen["Verify: error 62"]-seen["Server: error 62"] < 100 {
		t.Error("hardly any sum of the centre was wrong alone")
	}
}

// told are all answers to calls by chance; often is how much else is asked between.
func told(seed int64, often int) []string {
	r, other := by(seed), by(seed+1000)
	var all []string
	for range 300 {
		a, s, c := r.auth(), r.key(), r.key()
		x, e := authz.Build(a, s, c)
		y := r.container(s, c)
		all = append(all, e.Error()+spell(x), spell(authz.Data(a)), answer(authz.Read(y)), answer(authz.Server(y, s)), answer(authz.Verify(y, s, c)))
		if authz.Valid(a) && authz.Same(a, a) {
			all = append(all, tell(a))
		}
		for range often {
			b, k := other.auth(), other.key()
			z, _ := authz.Build(b, k, k)
			authz.Verify(z, k, k)
			authz.Verify(y, k, k)
			authz.Same(a, b)
		}
	}
	return all
}

// TestSameCallsSameAnswers, whatever is asked between, and by many at once.
func TestSameCallsSameAnswers(t *testing.T) {
	for seed := range int64(10) {
		want := told(seed, 0)
		var w sync.WaitGroup
		for n := range 8 {
			w.Go(func() {
				got := told(seed, n%3)
				if len(got) != len(want) {
					t.Errorf("%d answers, not %d", len(got), len(want))
					return
				}
				for i := range got {
					if got[i] != want[i] {
						t.Errorf("%d: %s, not %s", i, brief(got[i]), brief(want[i]))
					}
				}
			})
		}
		w.Wait()
	}
}

// TestOneContainerForManyAtOnce: who reads it changes nothing in it.
func TestOneContainerForManyAtOnce(t *testing.T) {
	x := inRoom(built(t, rich(), db, centre))
	var w sync.WaitGroup
	for range 8 {
		w.Go(func() {
			for range 200 {
				if got := answer(authz.Verify(x, db, centre)); got != answer(rich(), api.OK) {
					t.Error(brief(got))
				}
				if got := answer(authz.Verify(x, centre, db)); got != answer(api.Auth{}, api.ErrSum) {
					t.Error(brief(got))
				}
			}
		})
	}
	w.Wait()
}
