package policy_test

import (
	"math"
	"slices"
	"strings"
	"testing"

	"legate/api"
	"legate/policy"
	"legate/term"
)

// brink is a principal at all upper limits.
func brink() api.Principal {
	return api.Principal{Name: strings.Repeat("n", 40), Version: 1000, Transition: true, Sensitive: true, Allowed: named(0, 50), Acts: named(50, 100), Groups: make([]int, 20), Life: 1 << 40}
}

// valid holds whether a principal is valid, and that it can be added just then.
func valid(t *testing.T, want bool, what string, p api.Principal) {
	t.Helper()
	if policy.Valid(p) != want {
		t.Errorf("%s: valid %v", what, !want)
	}
	s := policy.New()
	if !want {
		refuses(t, s, "Add, "+what, api.ErrArg, func() api.Errno { return s.Add(p) })
		none(t, s, p.Name)
		return
	}
	gives(t, "Add, "+what, s.Add(p), api.OK)
	has(t, s, p)
}

// validWith holds whether a principal is valid, be it else of the least, or of the most that may be.
func validWith(t *testing.T, want bool, what string, set func(p *api.Principal)) {
	t.Helper()
	for _, p := range []api.Principal{plain("a")[0], brink()} {
		set(&p)
		valid(t, want, what, p)
	}
}

func TestValidPrincipals(t *testing.T) {
	valid(t, false, "a zero one", api.Principal{})
	valid(t, true, "a name and a version", plain("a")[0])
	valid(t, true, "all at their limits", brink())
	valid(t, true, "all set", rich())
	validWith(t, true, "what may be set or not", func(p *api.Principal) { p.Transition = !p.Transition })
	validWith(t, true, "what may be set or not", func(p *api.Principal) { p.Sensitive = !p.Sensitive })
}

// listWith is a list of names of which the one is in the first, the last, or another place.
func listWith(name string) [][]string {
	return [][]string{{name}, {name, "one", "two"}, {"one", name, "two"}, {"one", "two", name}, append(named(0, 49), name), append([]string{name}, named(0, 49)...)}
}

func TestValidNames(t *testing.T) {
	l := []string{"", "A", "aA", "a b", " ", "a\n", "a_b", "a,b", "é", strings.Repeat("z", 40), strings.Repeat("z", 41), strings.Repeat("z", 1<<20), "a", "0", "-", ".", "/", "12", "-3", api.Centre}
	for b := range 256 {
		l = append(l, string([]byte{byte(b)}), string([]byte{'a', byte(b), 'z'}))
	}
	for _, n := range l {
		ok := term.Name(n)
		validWith(t, ok, "a name", func(p *api.Principal) { p.Name = n })
		for _, k := range listWith(n) {
			validWith(t, ok, "a name in Allowed", func(p *api.Principal) { p.Allowed = k })
			validWith(t, ok, "a name in Acts", func(p *api.Principal) { p.Acts = k })
		}
	}
}

func TestValidAtNamesThatAreTwice(t *testing.T) {
	twice := [][]string{{"x", "x"}, {"x", "y", "x"}, {"y", "x", "x"}, {"x", "x", "y"}, {"a", "a"}, {"x", "x", "x"}, append(named(0, 49), "p0"), append(named(0, 49), "p48"), append(named(1, 50), "p25")}
	once := [][]string{{}, {"x"}, {"x", "y"}, {"x", "xx"}, {"x", "x-"}, {"y", "x"}, {"p1", "p10"}, {"1", "01"}}
	for _, l := range twice {
		validWith(t, false, "twice in Allowed", func(p *api.Principal) { p.Allowed = l })
		validWith(t, false, "twice in Acts", func(p *api.Principal) { p.Acts = l })
	}
	for _, l := range once {
		validWith(t, true, "once in Allowed", func(p *api.Principal) { p.Allowed = l })
		validWith(t, true, "once in Acts", func(p *api.Principal) { p.Acts = l })
	}
}

// TestValidAtNamesOfWhomever: one that is in both lists, the principal's own, and one that nobody has.
func TestValidAtNamesOfWhomever(t *testing.T) {
	validWith(t, true, "the same ones in both", func(p *api.Principal) { p.Allowed, p.Acts = named(0, 50), named(0, 50) })
	validWith(t, true, "in another order", func(p *api.Principal) {
		p.Allowed, p.Acts = named(0, 50), named(0, 50)
		slices.Reverse(p.Acts)
	})
	validWith(t, true, "its own in Allowed", func(p *api.Principal) { p.Allowed = []string{p.Name} })
	validWith(t, true, "its own in Acts", func(p *api.Principal) { p.Acts = []string{"x", p.Name} })
	validWith(t, true, "its own in both", func(p *api.Principal) { p.Allowed, p.Acts = []string{p.Name}, []string{p.Name} })
	validWith(t, true, "nobody's", func(p *api.Principal) { p.Allowed, p.Acts = []string{"nobody"}, []string{"none"} })
}

func TestValidAtHowManyNames(t *testing.T) {
	for _, n := range []int{0, 1, 2, 49, 50, 51, 52, 100, 1 << 18} {
		l := named(0, n)
		validWith(t, n <= 50, "so many in Allowed", func(p *api.Principal) { p.Allowed = l })
		validWith(t, n <= 50, "so many in Acts", func(p *api.Principal) { p.Acts = l })
	}
}

func TestValidAtVersions(t *testing.T) {
	for _, n := range []int{math.MinInt, -1000, -1, 0, 1, 2, 500, 999, 1000, 1001, 1 << 32, 1<<32 + 1, math.MaxInt} {
		validWith(t, n >= 1 && n <= 1000, "a version", func(p *api.Principal) { p.Version = n })
	}
}

func TestValidAtLives(t *testing.T) {
	for _, n := range []int{math.MinInt, -(1 << 40), -1, 0, 1, 600, 1 << 32, 1<<40 - 1, 1 << 40, 1<<40 + 1, math.MaxInt} {
		validWith(t, n >= 0 && n <= 1<<40, "a life", func(p *api.Principal) { p.Life = n })
	}
}

// TestValidAtGroups: how many they are counts alone, not which.
func TestValidAtGroups(t *testing.T) {
	for _, n := range []int{0, 1, 19, 20, 21, 22, 1 << 18} {
		for _, of := range []int{0, 1, -1, math.MaxInt, math.MinInt} {
			l := make([]int, n)
			for i := range l {
				l[i] = of
			}
			validWith(t, n <= 20, "so many groups", func(p *api.Principal) { p.Groups = l })
		}
	}
}
