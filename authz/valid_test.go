package authz_test

import (
	"math"
	"slices"
	"strings"
	"testing"

	"legate/api"
	"legate/authz"
	"legate/term"
)

// valid holds whether words are valid, and that a container can be built of them, and read, just then.
func valid(t *testing.T, want bool, what string, a api.Auth) {
	t.Helper()
	if authz.Valid(a) != want {
		t.Errorf("%s: valid %v: %s", what, !want, brief(tell(a)))
	}
	x := term.List(authz.Data(a), db, centre)
	if !want {
		refusesToBuild(t, what, a, db, centre)
		reads(t, what, x, nil)
		return
	}
	reads(t, what, x, &a)
	got, e := authz.Verify(built(t, a, db, centre), db, centre)
	tells(t, what, got, e, a)
}

// validWith holds whether words are valid, be they else of the least, or of the most that may be, or between.
func validWith(t *testing.T, want bool, what string, set func(a *api.Auth)) {
	t.Helper()
	for _, a := range []api.Auth{poor(), brink(), rich()} {
		set(&a)
		valid(t, want, what, a)
	}
}

func TestValidWords(t *testing.T) {
	valid(t, false, "zero ones", api.Auth{})
	valid(t, true, "the least", poor())
	valid(t, true, "all set", rich())
	valid(t, true, "all at their limits", brink())
	validWith(t, true, "forwardable or not", func(a *api.Auth) { a.Forwardable = !a.Forwardable })
	validWith(t, true, "lists without things", func(a *api.Auth) { a.Groups, a.Transited = []int{}, []string{} })
}

// listWith are lists of names in which the one is the first, the last, or another one, and as many as may be.
func listWith(name string) [][]string {
	seven := []string{"a", "b", "c", "d", "e", "f", "g"}
	return [][]string{{name}, {name, "one", "two"}, {"one", name, "two"}, {"one", "two", name}, append([]string{name}, seven...), append(slices.Clone(seven), name)}
}

func TestValidNames(t *testing.T) {
	l := []string{"", "A", "aA", "a b", " ", "a\n", "a_b", "é", strings.Repeat("z", 40), strings.Repeat("z", 41), strings.Repeat("z", 1<<20), "a", "0", "-", ".", "/", "12", "-3", api.Centre}
	for b := range 256 {
		l = append(l, string([]byte{byte(b)}), string([]byte{'a', byte(b), 'z'}))
	}
	for _, n := range l {
		ok := term.Name(n)
		validWith(t, ok, "a user", func(a *api.Auth) { a.User = n })
		validWith(t, ok, "a service", func(a *api.Auth) { a.Service = n })
		for _, k := range listWith(n) {
			validWith(t, ok, "a name in Transited", func(a *api.Auth) { a.Transited = k })
		}
	}
}

// TestValidAtNamesOfWhomever: the same one more than once, the user's and the service's own, and the centre's.
func TestValidAtNamesOfWhomever(t *testing.T) {
	for _, l := range [][]string{{"x", "x"}, {"x", "y", "x"}, {"y", "x", "x"}, slices.Repeat([]string{"x"}, 8)} {
		validWith(t, true, "twice in Transited", func(a *api.Auth) { a.Transited = l })
	}
	validWith(t, true, "the user in Transited", func(a *api.Auth) { a.Transited = []string{a.User} })
	validWith(t, true, "the service in Transited", func(a *api.Auth) { a.Transited = []string{"x", a.Service} })
	validWith(t, true, "the user as the service", func(a *api.Auth) { a.Service = a.User })
	validWith(t, true, "the centre", func(a *api.Auth) { a.User, a.Service, a.Transited = api.Centre, api.Centre, []string{api.Centre} })
}

func TestValidAtHowManyServices(t *testing.T) {
	for _, n := range []int{0, 1, 2, 7, 8, 9, 10, 64, 65, 1 << 12} {
		validWith(t, n <= 8, "so many in Transited", func(a *api.Auth) { a.Transited = slices.Repeat([]string{"web"}, n) })
	}
}

// TestValidAtGroups: how many they are counts alone, not which.
func TestValidAtGroups(t *testing.T) {
	for _, n := range []int{0, 1, 2, 19, 20, 21, 22, 64, 65, 1 << 12} {
		for _, of := range []int{0, 1, -1, 7, 1<<40 + 1, math.MaxInt, math.MinInt} {
			validWith(t, n <= 20, "so many groups", func(a *api.Auth) { a.Groups = slices.Repeat([]int{of}, n) })
		}
	}
	validWith(t, true, "unlike groups", func(a *api.Auth) { a.Groups = groups(20) })
	validWith(t, false, "unlike groups", func(a *api.Auth) { a.Groups = groups(21) })
	a := rich()
	a.Groups = groups(1 << 18)
	valid(t, false, "very many groups", a)
}

func TestValidAtOrigins(t *testing.T) {
	for _, n := range []int{math.MinInt, -2, -1, 0, 1, 2, 3, 256, 1 << 32, 1<<32 + 1, math.MaxInt} {
		validWith(t, n == 0 || n == 1, "an origin", func(a *api.Auth) { a.Origin = n })
	}
}

func TestValidAtTimes(t *testing.T) {
	for _, n := range []int{math.MinInt, -(1 << 40), -2, -1, 0, 1, 500, 1 << 32, 1<<40 - 1, 1 << 40, 1<<40 + 1, 1 << 41, math.MaxInt} {
		validWith(t, n >= 0 && n <= 1<<40, "a time", func(a *api.Auth) { a.To = n })
	}
}

// TestMoreThanOneOddity is no better than one.
func TestMoreThanOneOddity(t *testing.T) {
	odd := []func(a *api.Auth){
		func(a *api.Auth) { a.User = "" },
		func(a *api.Auth) { a.Service = "A" },
		func(a *api.Auth) { a.Transited = []string{"web", ""} },
		func(a *api.Auth) { a.Transited = slices.Repeat([]string{"web"}, 9) },
		func(a *api.Auth) { a.Groups = groups(21) },
		func(a *api.Auth) { a.Origin = 2 },
		func(a *api.Auth) { a.To = -1 },
	}
	for _, first := range odd {
		for _, second := range odd {
			validWith(t, false, "two oddities", func(a *api.Auth) {
				first(a)
				second(a)
			})
		}
	}
}
