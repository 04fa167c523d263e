package policy_test

import (
	"slices"
	"testing"

	"legate/api"
	"legate/policy"
)

func TestGetOfWhatWasAdded(t *testing.T) {
	s := added(t, rich(), brink(), plain("db")[0])
	for range 2 {
		has(t, s, rich())
		has(t, s, brink())
		has(t, s, api.Principal{Name: "db", Version: 1})
		none(t, s, "none")
		none(t, s, "x")
	}
	each := []func(p *api.Principal){
		func(p *api.Principal) { p.Version = 1000 },
		func(p *api.Principal) { p.Transition = true },
		func(p *api.Principal) { p.Sensitive = true },
		func(p *api.Principal) { p.Allowed = []string{"z", "a", "m"} },
		func(p *api.Principal) { p.Acts = []string{"y", "b", "n"} },
		func(p *api.Principal) { p.Groups = []int{3, 1, 2, 3} },
		func(p *api.Principal) { p.Life = 1 << 40 },
	}
	for _, set := range each {
		p := plain("a")[0]
		set(&p)
		has(t, added(t, p), p)
	}
}

// TestAddTwice: who was there first stays as it was.
func TestAddTwice(t *testing.T) {
	s := added(t, rich(), plain("db")[0])
	other := brink()
	other.Name = "web"
	for _, p := range []api.Principal{rich(), other, plain("web")[0], plain("db")[0]} {
		refuses(t, s, "Add", api.ErrTwice, func() api.Errno { return s.Add(p) })
	}
	has(t, s, rich())
	gives(t, "Add", s.Add(plain("we")[0]), api.OK)
	gives(t, "Add", s.Add(plain("webs")[0]), api.OK)
}

// spoilt are principals of a name, each not valid of another cause.
func spoilt(name string) []api.Principal {
	return []api.Principal{
		{Name: name}, {Name: name, Version: 1001}, {Name: name, Version: -1},
		{Name: name, Version: 1, Life: -1}, {Name: name, Version: 1, Life: 1<<40 + 1},
		{Name: name, Version: 1, Groups: make([]int, 21)},
		{Name: name, Version: 1, Allowed: []string{""}}, {Name: name, Version: 1, Allowed: []string{"x", "x"}}, {Name: name, Version: 1, Allowed: named(0, 51)},
		{Name: name, Version: 1, Acts: []string{"A"}}, {Name: name, Version: 1, Acts: []string{"x", "y", "x"}}, {Name: name, Version: 1, Acts: named(0, 51)},
	}
}

func TestAddOfWhatIsNotValid(t *testing.T) {
	s := added(t, rich())
	for _, p := range append(append(spoilt("db"), spoilt("A")...), api.Principal{}) {
		refuses(t, s, "Add", api.ErrArg, func() api.Errno { return s.Add(p) })
		none(t, s, p.Name)
	}
	for _, p := range spoilt("web") {
		refuses(t, s, "Add of one that is there, not valid", api.ErrArg, func() api.Errno { return s.Add(p) })
	}
	has(t, s, rich())
	gives(t, "Add", s.Add(plain("db")[0]), api.OK)
}

// TestAddOfMany: there is room for 100, and what is wrong first is told first.
func TestAddOfMany(t *testing.T) {
	s := added(t, plain(named(0, 99)...)...)
	refuses(t, s, "Add of the 100th, not valid", api.ErrArg, func() api.Errno { return s.Add(api.Principal{Name: "web"}) })
	refuses(t, s, "Add of one that is there", api.ErrTwice, func() api.Errno { return s.Add(plain("p98")[0]) })
	gives(t, "Add of the 100th", s.Add(rich()), api.OK)
	for range 2 {
		refuses(t, s, "Add of the 101st", api.ErrFull, func() api.Errno { return s.Add(plain("p99")[0]) })
		refuses(t, s, "Add of the 101st", api.ErrFull, func() api.Errno { return s.Add(brink()) })
		refuses(t, s, "Add of the first one again", api.ErrTwice, func() api.Errno { return s.Add(plain("p0")[0]) })
		refuses(t, s, "Add of the 100th again", api.ErrTwice, func() api.Errno { return s.Add(rich()) })
		for _, p := range append(append(spoilt("p99"), spoilt("p0")...), api.Principal{}) {
			refuses(t, s, "Add of one that is not valid", api.ErrArg, func() api.Errno { return s.Add(p) })
		}
	}
	none(t, s, "p99")
	has(t, s, rich())
	want := append(named(0, 99), "web")
	slices.Sort(want)
	if got := s.Names(); !slices.Equal(got, want) {
		t.Errorf("%q", got)
	}
}

// TestFullStoreIsChangedStill: there is no room for others, but those that are there may change.
func TestFullStoreIsChangedStill(t *testing.T) {
	s := added(t, plain(named(0, 100)...)...)
	gives(t, "Rekey", s.Rekey("p99"), api.OK)
	gives(t, "Allow", s.Allow("p99", "p0", true), api.OK)
	gives(t, "Acts", s.Acts("p99", "p1", true), api.OK)
	gives(t, "Trust", s.Trust("p99", true), api.OK)
	gives(t, "Sense", s.Sense("p99", true), api.OK)
	has(t, s, api.Principal{Name: "p99", Version: 2, Transition: true, Sensitive: true, Allowed: []string{"p0"}, Acts: []string{"p1"}})
	refuses(t, s, "Add", api.ErrFull, func() api.Errno { return s.Add(plain("p100")[0]) })
}

// TestErrorsTakeNoRoom: who was refused is not counted.
func TestErrorsTakeNoRoom(t *testing.T) {
	s := policy.New()
	for i, n := range named(0, 100) {
		gives(t, "Add", s.Add(api.Principal{Name: n}), api.ErrArg)
		gives(t, "Allow", s.Allow(n, n, true), api.ErrWho)
		gives(t, "Rekey", s.Rekey(n), api.ErrWho)
		gives(t, "Add", s.Add(plain(n)[0]), api.OK)
		gives(t, "Add", s.Add(plain(n)[0]), api.ErrTwice)
		if l := s.Names(); len(l) != i+1 {
			t.Errorf("%d, not %d", len(l), i+1)
		}
	}
}
