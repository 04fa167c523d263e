package policy_test

import (
	"slices"
	"testing"

	"legate/api"
	"legate/policy"
)

// side is one of a principal's two lists, and the call that changes it.
type side struct {
	name string
	call func(s *policy.Store, a, b string, on bool) api.Errno
	list func(p *api.Principal) *[]string
	asks func(s *policy.Store, owner, in string) bool // is that name in the owner's list, as May tells it?
}

func sides() []side {
	return []side{
		{"Allow", (*policy.Store).Allow, func(p *api.Principal) *[]string { return &p.Allowed }, func(s *policy.Store, owner, in string) bool {
			x, _ := s.May(owner, in)
			return x
		}},
		{"Acts", (*policy.Store).Acts, func(p *api.Principal) *[]string { return &p.Acts }, func(s *policy.Store, owner, in string) bool {
			_, y := s.May(in, owner)
			return y
		}},
	}
}

// eachSide runs a test of both lists, the other one of which has names of its own.
func eachSide(t *testing.T, test func(t *testing.T, x side)) {
	for _, x := range sides() {
		t.Run(x.name, func(t *testing.T) { test(t, x) })
	}
}

// with is a principal with that list, and of which all else is set.
func (x side) with(l ...string) api.Principal {
	p := rich()
	*x.list(&p) = l
	return p
}

// lists holds that this is in web's list, and all else of it as it was.
func (x side) lists(t *testing.T, s *policy.Store, l ...string) {
	t.Helper()
	has(t, s, x.with(l...))
	for _, n := range append(s.Names(), "none", "x") {
		if got := x.asks(s, "web", n); got != slices.Contains(l, n) {
			t.Errorf("%s of web and %s: %v", x.name, n, got)
		}
	}
}

// sets holds that a call goes well.
func (x side) sets(t *testing.T, s *policy.Store, b string, on bool) {
	t.Helper()
	gives(t, x.name+" of web and "+b, x.call(s, "web", b, on), api.OK)
}

func (x side) refuses(t *testing.T, s *policy.Store, want api.Errno, a, b string, on bool) {
	t.Helper()
	refuses(t, s, x.name+" of "+a+" and "+b, want, func() api.Errno { return x.call(s, a, b, on) })
}

func TestListsOfNobody(t *testing.T) {
	eachSide(t, func(t *testing.T, x side) {
		// These two are in the list, though one is nobody.
		s := added(t, append(plain("db"), x.with("none", "db"))...)
		for _, on := range []bool{true, false} {
			x.refuses(t, s, api.ErrWho, "none", "web", on)
			x.refuses(t, s, api.ErrWho, "none", "db", on)
			x.refuses(t, s, api.ErrWho, "web", "none", on)
			x.refuses(t, s, api.ErrWho, "web", "x", on)
			x.refuses(t, s, api.ErrWho, "none", "none", on)
			x.refuses(t, s, api.ErrWho, "none", "x", on)
		}
		x.lists(t, s, "none", "db")
	})
}

func TestListsOfOneself(t *testing.T) {
	eachSide(t, func(t *testing.T, x side) {
		s := added(t, append(plain("db"), x.with())...)
		x.lists(t, s)
		x.sets(t, s, "web", false)
		x.lists(t, s)
		x.sets(t, s, "web", true)
		x.lists(t, s, "web")
		x.sets(t, s, "web", true)
		x.lists(t, s, "web")
		x.sets(t, s, "db", true)
		x.sets(t, s, "web", false)
		x.lists(t, s, "db")
		x.sets(t, s, "web", true)
		x.lists(t, s, "db", "web")
		has(t, s, plain("db")[0])
	})
}

// TestListsGrowBehind: who is let come stands behind the others, whatever their names; who is in it already stays where it is.
func TestListsGrowBehind(t *testing.T) {
	eachSide(t, func(t *testing.T, x side) {
		s := added(t, append(plain("a", "m", "z", "q"), x.with("none", "n"))...)
		for i, n := range []string{"z", "a", "m", "q"} {
			x.sets(t, s, n, true)
			l := append([]string{"none", "n"}, []string{"z", "a", "m", "q"}[:i+1]...)
			x.lists(t, s, l...)
			for _, again := range l[2:] {
				x.sets(t, s, again, true)
				x.lists(t, s, l...)
			}
		}
	})
}

func TestListsShrinkInOrder(t *testing.T) {
	l := []string{"z", "a", "m", "q", "b"}
	eachSide(t, func(t *testing.T, x side) {
		for i, n := range l {
			s := added(t, append(plain(l...), x.with(l...))...)
			rest := slices.Delete(slices.Clone(l), i, i+1)
			x.sets(t, s, n, false)
			x.lists(t, s, rest...)
			x.sets(t, s, n, false)
			x.lists(t, s, rest...)
			x.sets(t, s, n, true)
			x.lists(t, s, append(rest, n)...)
			for k := range rest {
				x.sets(t, s, rest[k], false)
				x.lists(t, s, append(slices.Clone(rest[k+1:]), n)...)
			}
			x.sets(t, s, n, false)
			x.lists(t, s)
		}
	})
}

// TestOffOfWhatIsNotInIt changes nothing, and is no error.
func TestOffOfWhatIsNotInIt(t *testing.T) {
	eachSide(t, func(t *testing.T, x side) {
		for _, l := range [][]string{nil, {"a"}, {"a", "none"}, named(0, 50)} {
			s := added(t, append(plain("a", "b", "we"), x.with(l...))...)
			for _, n := range []string{"b", "we", "web"} {
				x.sets(t, s, n, false)
				x.sets(t, s, n, false)
				x.lists(t, s, l...)
			}
		}
	})
}

func TestListsAreFullAtFifty(t *testing.T) {
	eachSide(t, func(t *testing.T, x side) {
		s := added(t, append(plain("a", "b", "p0", "p48"), x.with(named(0, 49)...))...)
		x.refuses(t, s, api.ErrWho, "web", "p1", true)
		x.sets(t, s, "a", true)
		full := append(named(0, 49), "a")
		x.lists(t, s, full...)
		for range 2 {
			x.refuses(t, s, api.ErrFull, "web", "b", true)
			x.refuses(t, s, api.ErrFull, "web", "web", true)
			x.refuses(t, s, api.ErrWho, "web", "none", true)
			x.refuses(t, s, api.ErrWho, "none", "b", true)
			for _, in := range []string{"a", "p0", "p48"} {
				x.sets(t, s, in, true)
				x.lists(t, s, full...)
			}
			x.sets(t, s, "b", false)
			x.lists(t, s, full...)
		}
		x.sets(t, s, "p48", false)
		x.sets(t, s, "b", true)
		x.lists(t, s, append(named(0, 48), "a", "b")...)
		x.refuses(t, s, api.ErrFull, "web", "p48", true)
	})
}

// TestListsGrowFromNothing up to what they may be, and are gone again.
func TestListsGrowFromNothing(t *testing.T) {
	eachSide(t, func(t *testing.T, x side) {
		all := named(0, 60)
		s := added(t, append(plain(all...), x.with())...)
		for i, n := range all[:50] {
			x.sets(t, s, n, true)
			x.lists(t, s, all[:i+1]...)
		}
		for _, n := range all[50:] {
			x.refuses(t, s, api.ErrFull, "web", n, true)
		}
		for i, n := range all[:50] {
			x.sets(t, s, n, false)
			x.lists(t, s, all[i+1:50]...)
		}
	})
}

// TestOtherListMayBeFull: each list has room of its own.
func TestOtherListMayBeFull(t *testing.T) {
	s := added(t, append(plain("db"), api.Principal{Name: "web", Version: 1, Allowed: named(0, 50)}, api.Principal{Name: "mail", Version: 1, Acts: named(0, 50)})...)
	gives(t, "Acts", s.Acts("web", "db", true), api.OK)
	gives(t, "Allow", s.Allow("mail", "db", true), api.OK)
	gives(t, "Allow", s.Allow("db", "web", true), api.OK)
	gives(t, "Acts", s.Acts("db", "mail", true), api.OK)
	refuses(t, s, "Allow", api.ErrFull, func() api.Errno { return s.Allow("web", "db", true) })
	refuses(t, s, "Acts", api.ErrFull, func() api.Errno { return s.Acts("mail", "db", true) })
	has(t, s, api.Principal{Name: "web", Version: 1, Allowed: named(0, 50), Acts: []string{"db"}})
	has(t, s, api.Principal{Name: "mail", Version: 1, Allowed: []string{"db"}, Acts: named(0, 50)})
	has(t, s, api.Principal{Name: "db", Version: 1, Allowed: []string{"web"}, Acts: []string{"mail"}})
}
