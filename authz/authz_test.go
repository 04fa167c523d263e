package authz_test

import (
	"fmt"
	"math"
	"strings"
	"testing"

	"legate/api"
	"legate/authz"
	"legate/term"
)

var (
	db      = term.Key("db", 2)
	centre  = term.Key(api.Centre, 1)
	session = term.Key("", 7)
)

// rich is a container's words, of which all are set.
func rich() api.Auth {
	return api.Auth{User: "ann", Groups: []int{7, -1}, Origin: api.OriginTransition, Transited: []string{"web", "app"}, Service: "db", Forwardable: true, To: 500}
}

// poor are the least words that may be.
func poor() api.Auth { return api.Auth{User: "a", Service: "b"} }

// brink are words at all upper limits.
func brink() api.Auth {
	l := strings.Repeat("z", 40)
	return api.Auth{User: l, Groups: groups(20), Origin: api.OriginTransition, Transited: []string{l, "a", "b", "c", "d", "e", "f", l}, Service: l, Forwardable: true, To: 1 << 40}
}

func groups(n int) []int {
	l := make([]int, n)
	for i := range l {
		l[i] = []int{math.MinInt, 3, -i, math.MaxInt, i}[i%5]
	}
	return l
}

// tell is a container's words as a text, in which unlike ones are unlike, and lists without things alike.
func tell(a api.Auth) string {
	return fmt.Sprintf("%q %v %d %q %q %v %d", a.User, a.Groups, a.Origin, a.Transited, a.Service, a.Forwardable, a.To)
}

// spell is a term as a text, in which each of its fields is told.
func spell(t api.Term) string {
	l := make([]string, len(t.L))
	for i, p := range t.L {
		l[i] = spell(p)
	}
	return fmt.Sprintf("{%d %q %d %s}", t.K, t.S, t.N, l)
}

func brief(x any) string {
	s := fmt.Sprintf("%+q", fmt.Sprintf("%+v", x))
	return s[:min(len(s), 600)]
}

// tells holds that a call answered these words.
func tells(t *testing.T, what string, a api.Auth, e api.Errno, want api.Auth) {
	t.Helper()
	if e != api.OK || tell(a) != tell(want) {
		t.Errorf("%s: %v, %s, not %s", brief(what), e, brief(tell(a)), brief(tell(want)))
	}
}

// refuses holds that a call answered an error, and beside it nothing.
func refuses(t *testing.T, what string, a api.Auth, e, want api.Errno) {
	t.Helper()
	if e != want || tell(a) != tell(api.Auth{}) {
		t.Errorf("%s: %v, not %v: %s", brief(what), e, want, brief(tell(a)))
	}
}

// built is a container.
func built(t *testing.T, a api.Auth, server, centre api.Term) api.Term {
	t.Helper()
	x, e := authz.Build(a, server, centre)
	if e != api.OK {
		t.Fatalf("%v: %s", e, brief(tell(a)))
	}
	return x
}

// refusesToBuild holds that nothing is built.
func refusesToBuild(t *testing.T, what string, a api.Auth, server, centre api.Term) {
	t.Helper()
	if x, e := authz.Build(a, server, centre); e != api.ErrArg || spell(x) != spell(api.Term{}) {
		t.Errorf("%s: %v, %s", brief(what), e, brief(spell(x)))
	}
}

// reads holds what Read answers; want is nil, if it is ErrMsg: then Server and Verify answer that, too, whatever their keys are.
func reads(t *testing.T, what string, x api.Term, want *api.Auth) {
	t.Helper()
	a, e := authz.Read(x)
	if want != nil {
		tells(t, what, a, e, *want)
		return
	}
	refuses(t, what, a, e, api.ErrMsg)
	for _, k := range []api.Term{db, centre, session, term.Of("db"), {}} {
		a, e = authz.Server(x, k)
		refuses(t, "Server, "+what, a, e, api.ErrMsg)
		for _, c := range []api.Term{centre, db, term.Num(1)} {
			a, e = authz.Verify(x, k, c)
			refuses(t, "Verify, "+what, a, e, api.ErrMsg)
		}
	}
}

// changed is a term of which the part at a path is another one; the other term stays as it was.
func changed(x api.Term, to func(p api.Term) api.Term, path ...int) api.Term {
	if len(path) == 0 {
		return to(x)
	}
	l := append([]api.Term(nil), x.L...)
	l[path[0]] = changed(l[path[0]], to, path[1:]...)
	x.L = l
	return x
}

// put is a term of which the part at a path is that one.
func put(x, p api.Term, path ...int) api.Term {
	return changed(x, func(api.Term) api.Term { return p }, path...)
}

func TestExample(t *testing.T) {
	a := api.Auth{User: "ann", Service: "web"}
	if got := term.Text(authz.Data(a)); got != "[ann [] 0 [] web 0 0]" {
		t.Error(got)
	}
	if !authz.Valid(a) {
		t.Error("not valid")
	}
}
