package policy_test

import (
	"testing"

	"legate/api"
	"legate/policy"
	"legate/term"
)

// newest holds a principal's newest key, and that its version tells the same.
func newest(t *testing.T, s *policy.Store, name string, want int) {
	t.Helper()
	if k, e := s.Key(name); e != api.OK || !term.Same(k, api.Term{K: api.TmKey, S: name, N: want}) {
		t.Errorf("%v, %v, not %s's %d", k, e, name, want)
	}
	if p, e := s.Get(name); e != api.OK || p.Version != want {
		t.Errorf("%s: version %d, %v, not %d", name, p.Version, e, want)
	}
}

func TestKeysOfWhatWasAdded(t *testing.T) {
	for _, v := range []int{1, 2, 999, 1000} {
		s := added(t, api.Principal{Name: "web", Version: v})
		newest(t, s, "web", v)
		newest(t, s, "web", v)
		none(t, s, "we")
	}
}

func TestRekeyUpToTheLastVersion(t *testing.T) {
	p := rich()
	p.Version = 1
	s := added(t, p, plain("db")[0])
	for v := 2; v <= 1000; v++ {
		gives(t, "Rekey", s.Rekey("web"), api.OK)
		newest(t, s, "web", v)
	}
	for range 3 {
		refuses(t, s, "Rekey at 1000", api.ErrFull, func() api.Errno { return s.Rekey("web") })
	}
	newest(t, s, "web", 1000)
	newest(t, s, "db", 1)
	p.Version = 1000
	has(t, s, p)
	gives(t, "Rekey", s.Rekey("db"), api.OK)
	newest(t, s, "db", 2)
}

func TestRekeyAtTheLimit(t *testing.T) {
	s := added(t, api.Principal{Name: "a", Version: 999}, api.Principal{Name: "b", Version: 1000})
	gives(t, "Rekey at 999", s.Rekey("a"), api.OK)
	newest(t, s, "a", 1000)
	refuses(t, s, "Rekey at 1000", api.ErrFull, func() api.Errno { return s.Rekey("a") })
	refuses(t, s, "Rekey at 1000", api.ErrFull, func() api.Errno { return s.Rekey("b") })
	refuses(t, s, "Rekey of none", api.ErrWho, func() api.Errno { return s.Rekey("c") })
}
