package policy_test

import (
	"slices"
	"testing"

	"legate/api"
	"legate/policy"
)

// TestTrustAndSense: each sets one of both, as often as it is asked, on and off.
func TestTrustAndSense(t *testing.T) {
	for _, c := range []struct {
		name string
		call func(s *policy.Store, a string, on bool) api.Errno
		set  func(p *api.Principal) *bool
	}{
		{"Trust", (*policy.Store).Trust, func(p *api.Principal) *bool { return &p.Transition }},
		{"Sense", (*policy.Store).Sense, func(p *api.Principal) *bool { return &p.Sensitive }},
	} {
		for _, p := range []api.Principal{plain("web")[0], rich()} {
			s := added(t, append(plain("db"), p)...)
			for _, on := range []bool{false, false, true, true, false, true, false} {
				refuses(t, s, c.name, api.ErrWho, func() api.Errno { return c.call(s, "none", on) })
				gives(t, c.name, c.call(s, "web", on), api.OK)
				*c.set(&p) = on
				has(t, s, p)
				has(t, s, plain("db")[0])
			}
			none(t, s, "none")
		}
	}
}

// change is a call that changes one principal, and what it changes of it.
type change struct {
	name string
	call func(s *policy.Store, a string) api.Errno
	of   func(p *api.Principal)
}

// without is a list that has a name no more.
func without(l []string, name string) []string {
	return slices.DeleteFunc(slices.Clone(l), func(n string) bool { return n == name })
}

// changes are all calls that change one who is as rich is; db is another one that is there.
func changes() []change {
	return []change{
		{"Rekey", func(s *policy.Store, a string) api.Errno { return s.Rekey(a) }, func(p *api.Principal) { p.Version++ }},
		{"Allow", func(s *policy.Store, a string) api.Errno { return s.Allow(a, "other", true) }, func(p *api.Principal) { p.Allowed = append(p.Allowed, "other") }},
		{"Allow off", func(s *policy.Store, a string) api.Errno { return s.Allow(a, "db", false) }, func(p *api.Principal) { p.Allowed = without(p.Allowed, "db") }},
		{"Acts", func(s *policy.Store, a string) api.Errno { return s.Acts(a, "other", true) }, func(p *api.Principal) { p.Acts = append(p.Acts, "other") }},
		{"Acts off", func(s *policy.Store, a string) api.Errno { return s.Acts(a, "db", false) }, func(p *api.Principal) { p.Acts = without(p.Acts, "db") }},
		{"Trust off", func(s *policy.Store, a string) api.Errno { return s.Trust(a, false) }, func(p *api.Principal) { p.Transition = false }},
		{"Sense off", func(s *policy.Store, a string) api.Errno { return s.Sense(a, false) }, func(p *api.Principal) { p.Sensitive = false }},
	}
}

// TestNothingElseChanges: neither of the principal of which something is set, nor of any other one.
func TestNothingElseChanges(t *testing.T) {
	names := []string{"a", "db", "other", "web", "x"}
	for _, c := range changes() {
		for _, who := range []string{"a", "web", "x"} {
			s := policy.New()
			for _, n := range names {
				p := rich()
				p.Name = n
				gives(t, "Add", s.Add(p), api.OK)
			}
			gives(t, c.name, c.call(s, who), api.OK)
			for _, n := range names {
				p := rich()
				p.Name = n
				if n == who {
					c.of(&p)
				}
				has(t, s, p)
			}
			if l := s.Names(); len(l) != len(names) {
				t.Errorf("%s: %q", c.name, l)
			}
		}
	}
}

// TestWhatIsSetStays while all else is set, of the same one and of others.
func TestWhatIsSetStays(t *testing.T) {
	for _, first := range changes() {
		s := added(t, append(plain("db", "other", "x"), rich())...)
		want := rich()
		gives(t, first.name, first.call(s, "web"), api.OK)
		first.of(&want)
		for _, c := range changes() {
			if c.name == first.name {
				continue
			}
			gives(t, c.name, c.call(s, "x"), api.OK)
			has(t, s, want)
			gives(t, c.name, c.call(s, "web"), api.OK)
			c.of(&want)
			has(t, s, want)
		}
	}
}

// TestAddChangesNobodyElse, whatever names its lists have.
func TestAddChangesNobodyElse(t *testing.T) {
	s := added(t, rich())
	gives(t, "Add", s.Add(api.Principal{Name: "db", Version: 9, Allowed: []string{"web"}, Acts: []string{"web"}, Groups: []int{1}, Life: 3}), api.OK)
	has(t, s, rich())
	has(t, s, api.Principal{Name: "db", Version: 9, Allowed: []string{"web"}, Acts: []string{"web"}, Groups: []int{1}, Life: 3})
}

// TestAskingChangesNothing, of whomever is asked.
func TestAskingChangesNothing(t *testing.T) {
	s := added(t, rich(), plain("db")[0])
	names := append(odd(), "web", "db", "x")
	was := state(s, names...)
	for range 3 {
		for _, n := range names {
			s.Get(n)
			s.Key(n)
			for _, o := range names {
				s.May(n, o)
			}
		}
		s.Names()
		policy.Valid(rich())
		if is := state(s, names...); is != was {
			t.Fatalf("%s was %s", brief(is), brief(was))
		}
	}
}
