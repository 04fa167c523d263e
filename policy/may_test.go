package policy_test

import (
	"testing"

	"legate/api"
	"legate/policy"
)

func TestMayOfNobody(t *testing.T) {
	s := added(t, plain("web", "db")...)
	for _, x := range []*policy.Store{policy.New(), s} {
		for _, n := range odd() {
			for _, o := range append(odd(), "web") {
				may(t, x, n, o, false, false)
				may(t, x, o, n, false, false)
			}
		}
	}
}

// TestMayWhereNamesStandInLists of nobody: that they are in them is told.
func TestMayWhereNamesStandInLists(t *testing.T) {
	s := added(t, api.Principal{Name: "web", Version: 1, Allowed: []string{"none", "db"}, Acts: []string{"who", "db"}}, plain("db")[0])
	may(t, s, "web", "none", true, false)
	may(t, s, "none", "web", false, false)
	may(t, s, "who", "web", false, true)
	may(t, s, "web", "who", false, false)
	may(t, s, "web", "db", true, false)
	may(t, s, "db", "web", false, true)
	may(t, s, "none", "who", false, false)
	may(t, s, "web", "web", false, false)
	// Who comes to be is in the lists that had the name.
	gives(t, "Add", s.Add(api.Principal{Name: "none", Version: 1, Acts: []string{"web", "who"}}), api.OK)
	may(t, s, "web", "none", true, true)
	may(t, s, "who", "none", false, true)
	may(t, s, "none", "web", false, false)
	gives(t, "Add", s.Add(api.Principal{Name: "who", Version: 1, Allowed: []string{"none", "web"}}), api.OK)
	may(t, s, "who", "none", true, true)
	may(t, s, "who", "web", true, true)
	may(t, s, "web", "who", false, false)
}

// TestMayHasADirection: what a may towards b is not what b may.
func TestMayHasADirection(t *testing.T) {
	s := added(t, plain("web", "db")...)
	for _, x := range []struct {
		allow, acts [2]bool // of web and db, of db and web
	}{
		{[2]bool{true, false}, [2]bool{false, false}}, {[2]bool{false, true}, [2]bool{false, false}},
		{[2]bool{false, false}, [2]bool{true, false}}, {[2]bool{false, false}, [2]bool{false, true}},
		{[2]bool{true, false}, [2]bool{true, false}}, {[2]bool{true, false}, [2]bool{false, true}},
		{[2]bool{true, true}, [2]bool{true, true}}, {[2]bool{}, [2]bool{}},
	} {
		for range 2 {
			gives(t, "Allow", s.Allow("web", "db", x.allow[0]), api.OK)
			gives(t, "Allow", s.Allow("db", "web", x.allow[1]), api.OK)
			gives(t, "Acts", s.Acts("web", "db", x.acts[0]), api.OK)
			gives(t, "Acts", s.Acts("db", "web", x.acts[1]), api.OK)
			may(t, s, "web", "db", x.allow[0], x.acts[1])
			may(t, s, "db", "web", x.allow[1], x.acts[0])
			may(t, s, "web", "web", false, false)
			may(t, s, "db", "db", false, false)
		}
	}
}

func TestMayOfOneself(t *testing.T) {
	s := added(t, plain("web")...)
	may(t, s, "web", "web", false, false)
	gives(t, "Allow", s.Allow("web", "web", true), api.OK)
	may(t, s, "web", "web", true, false)
	gives(t, "Acts", s.Acts("web", "web", true), api.OK)
	may(t, s, "web", "web", true, true)
	gives(t, "Allow", s.Allow("web", "web", false), api.OK)
	may(t, s, "web", "web", false, true)
}

// TestMayOfWholeNamesAlone: a name is not in a list in which a longer or a shorter one is.
func TestMayOfWholeNamesAlone(t *testing.T) {
	s := added(t, api.Principal{Name: "web", Version: 1, Allowed: []string{"data", "x"}, Acts: []string{"mail", "x"}})
	for _, n := range []string{"dat", "data-", "ata", "d", "", "datax", "mai", "mail-", "ail", "DATA", "mailx"} {
		may(t, s, "web", n, false, false)
		may(t, s, n, "web", false, false)
	}
	may(t, s, "web", "data", true, false)
	may(t, s, "mail", "web", false, true)
}

// TestMayAtAllPlacesOfFullLists finds each name.
func TestMayAtAllPlacesOfFullLists(t *testing.T) {
	s := added(t, api.Principal{Name: "web", Version: 1, Allowed: named(0, 50), Acts: named(50, 100)})
	for _, n := range named(0, 50) {
		may(t, s, "web", n, true, false)
		may(t, s, n, "web", false, false)
	}
	for _, n := range named(50, 100) {
		may(t, s, "web", n, false, false)
		may(t, s, n, "web", false, true)
	}
}

// TestWhatElseIsSetDoesNotCount: the lists alone tell who may.
func TestWhatElseIsSetDoesNotCount(t *testing.T) {
	a, b := rich(), rich()
	a.Allowed, a.Acts = nil, nil
	b.Name, b.Allowed, b.Acts = "db", nil, nil
	s := added(t, a, b)
	may(t, s, "web", "db", false, false)
	gives(t, "Allow", s.Allow("web", "db", true), api.OK)
	for _, on := range []bool{true, false, true} {
		gives(t, "Trust", s.Trust("web", on), api.OK)
		gives(t, "Sense", s.Sense("web", on), api.OK)
		gives(t, "Trust", s.Trust("db", !on), api.OK)
		gives(t, "Sense", s.Sense("db", !on), api.OK)
		gives(t, "Rekey", s.Rekey("web"), api.OK)
		may(t, s, "web", "db", true, false)
		may(t, s, "db", "web", false, false)
	}
}
