package policy_test

import (
	"slices"
	"testing"

	"legate/api"
	"legate/policy"
)

// roomy is a list that has others behind its end, which are another one's.
func roomy[T any](l []T, behind ...T) []T {
	return slices.Concat(l, behind)[:len(l)]
}

// spoil changes all that a principal's lists hold, and what is behind their ends.
func spoil(p api.Principal) {
	for _, l := range [][]string{p.Allowed, p.Acts} {
		l = l[:cap(l)]
		for i := range l {
			l[i] = "spoilt"
		}
	}
	l := p.Groups[:cap(p.Groups)]
	for i := range l {
		l[i] = -99
	}
}

// TestWhatIsAddedMayChangeLater: the store has it as it was then.
func TestWhatIsAddedMayChangeLater(t *testing.T) {
	p := rich()
	s := added(t, append(plain("db"), p)...)
	spoil(p)
	p.Version, p.Life, p.Name = 9, 9, "x"
	has(t, s, rich())
	p = rich()
	p.Name, p.Allowed, p.Acts, p.Groups = "room", roomy(p.Allowed, "a", "b"), roomy(p.Acts, "c"), roomy(p.Groups, 1, 2)
	want := rich()
	want.Name = "room"
	gives(t, "Add", s.Add(p), api.OK)
	spoil(p)
	has(t, s, want)
	gives(t, "Allow", s.Allow("room", "room", true), api.OK)
	gives(t, "Acts", s.Acts("room", "room", true), api.OK)
	spoil(p)
	want.Allowed, want.Acts = append(want.Allowed, "room"), append(want.Acts, "room")
	has(t, s, want)
}

// TestWhatIsAddedIsNotChanged, neither by Valid and Add, nor by what is set later; nor is what is behind its lists' ends.
func TestWhatIsAddedIsNotChanged(t *testing.T) {
	p := rich()
	p.Allowed, p.Acts, p.Groups = roomy(p.Allowed, "a", "b"), roomy(p.Acts, "c", "d"), roomy(p.Groups, 1, 2)
	same := func() {
		t.Helper()
		if !alike(p, rich()) || !slices.Equal(p.Allowed[:5], append(rich().Allowed, "a", "b")) || !slices.Equal(p.Acts[:4], append(rich().Acts, "c", "d")) || !slices.Equal(p.Groups[:6], append(rich().Groups, 1, 2)) {
			t.Errorf("%+v, %q, %q, %v", p, p.Allowed[:5], p.Acts[:4], p.Groups[:6])
		}
	}
	policy.Valid(p)
	same()
	s := added(t, append(plain("db", "other"), p)...)
	same()
	gives(t, "Add", s.Add(p), api.ErrTwice)
	same()
	for _, on := range []bool{true, false, true} {
		for _, n := range []string{"db", "other", "web"} {
			gives(t, "Allow", s.Allow("web", n, on), api.OK)
			gives(t, "Acts", s.Acts("web", n, on), api.OK)
			same()
		}
	}
	gives(t, "Rekey", s.Rekey("web"), api.OK)
	same()
	odd := api.Principal{Name: "x", Version: 1, Allowed: []string{"z", "a", "a"}, Acts: []string{"y", "b"}, Groups: []int{3, 1}}
	gives(t, "Add", s.Add(odd), api.ErrArg)
	if !alike(odd, api.Principal{Name: "x", Version: 1, Allowed: []string{"z", "a", "a"}, Acts: []string{"y", "b"}, Groups: []int{3, 1}}) {
		t.Errorf("%+v", odd)
	}
}

// TestWhatGetAnswersIsNotTheStores: changing it changes nothing, and another answer neither.
func TestWhatGetAnswersIsNotTheStores(t *testing.T) {
	s := added(t, append(plain("db", "other"), rich())...)
	// Lists that grew and shrank have room behind their ends.
	for _, n := range []string{"other", "db"} {
		gives(t, "Allow", s.Allow("web", n, true), api.OK)
		gives(t, "Acts", s.Acts("web", n, true), api.OK)
	}
	gives(t, "Allow", s.Allow("web", "other", false), api.OK)
	gives(t, "Acts", s.Acts("web", "other", false), api.OK)
	p, _ := s.Get("web")
	q, _ := s.Get("web")
	spoil(p)
	p.Version, p.Name = 9, "x"
	has(t, s, rich())
	if !alike(q, rich()) {
		t.Errorf("%+v", q)
	}
	p, _ = s.Get("web")
	first := append(p.Allowed, "first")
	acts := append(p.Acts, "first")
	groups := append(p.Groups, 1)
	gives(t, "Allow", s.Allow("web", "other", true), api.OK)
	gives(t, "Acts", s.Acts("web", "other", true), api.OK)
	q, _ = s.Get("web")
	_, _, _ = append(q.Allowed, "second"), append(q.Acts, "second"), append(q.Groups, 2)
	if first[3] != "first" || acts[2] != "first" || groups[4] != 1 {
		t.Error(first, acts, groups)
	}
	want := rich()
	want.Allowed, want.Acts = append(want.Allowed, "other"), append(want.Acts, "other")
	has(t, s, want)
}

// TestWhatGetAnsweredStays, whatever is set later.
func TestWhatGetAnsweredStays(t *testing.T) {
	s := added(t, append(plain("db", "other"), rich())...)
	p, _ := s.Get("web")
	for _, on := range []bool{false, true, false} {
		for _, n := range []string{"db", "web", "other"} {
			gives(t, "Allow", s.Allow("web", n, on), api.OK)
			gives(t, "Acts", s.Acts("web", n, on), api.OK)
		}
		gives(t, "Trust", s.Trust("web", on), api.OK)
		gives(t, "Sense", s.Sense("web", on), api.OK)
		gives(t, "Rekey", s.Rekey("web"), api.OK)
		if !alike(p, rich()) {
			t.Errorf("%+v", p)
		}
	}
}

// TestOneListForAll: principals, and both lists of one, that were handed the same list have each their own.
func TestOneListForAll(t *testing.T) {
	l, g := roomy([]string{"db", "web", "x"}, "y", "z"), roomy([]int{1, 2}, 3)
	a := api.Principal{Name: "web", Version: 1, Allowed: l, Acts: l, Groups: g}
	b := a
	b.Name = "db"
	s := added(t, a, b)
	gives(t, "Allow", s.Allow("web", "db", false), api.OK)
	gives(t, "Acts", s.Acts("db", "web", false), api.OK)
	has(t, s, api.Principal{Name: "web", Version: 1, Allowed: []string{"web", "x"}, Acts: l, Groups: g})
	has(t, s, api.Principal{Name: "db", Version: 1, Allowed: l, Acts: []string{"db", "x"}, Groups: g})
	gives(t, "Allow", s.Allow("web", "db", true), api.OK)
	gives(t, "Acts", s.Acts("db", "web", true), api.OK)
	has(t, s, api.Principal{Name: "web", Version: 1, Allowed: []string{"web", "x", "db"}, Acts: l, Groups: g})
	has(t, s, api.Principal{Name: "db", Version: 1, Allowed: l, Acts: []string{"db", "x", "web"}, Groups: g})
	if !slices.Equal(l[:5], []string{"db", "web", "x", "y", "z"}) || !slices.Equal(g[:3], []int{1, 2, 3}) {
		t.Error(l[:5], g[:3])
	}
	p := added(t, a)
	q, _ := p.Get("web")
	q.Allowed[0] = "first"
	if q.Acts[0] != "db" {
		t.Error("two lists of an answer are one")
	}
}

// TestWhatNamesAnswersIsNotTheStores: changing it changes nothing, and another answer neither.
func TestWhatNamesAnswersIsNotTheStores(t *testing.T) {
	s := added(t, plain("a", "b", "c")...)
	l, m := s.Names(), s.Names()
	for i := range l {
		l[i] = "spoilt"
	}
	first := append(m, "first")
	_ = append(s.Names(), "second")
	if !slices.Equal(m, []string{"a", "b", "c"}) || first[3] != "first" || !slices.Equal(s.Names(), []string{"a", "b", "c"}) {
		t.Error(m, first, s.Names())
	}
	none(t, s, "spoilt")
	gives(t, "Add", s.Add(plain("d")[0]), api.OK)
	if !slices.Equal(m, []string{"a", "b", "c"}) {
		t.Error(m)
	}
}

// TestStoresKnowNothingOfEachOther, though one is made of what another one answers.
func TestStoresKnowNothingOfEachOther(t *testing.T) {
	s, other, empty := policy.New(), policy.New(), policy.New()
	if s == other {
		t.Fatal("not two stores")
	}
	for _, p := range append(plain("db", "other"), rich()) {
		gives(t, "Add", s.Add(p), api.OK)
		got, _ := s.Get(p.Name)
		gives(t, "Add", other.Add(got), api.OK)
	}
	was := state(other, "db", "web")
	gives(t, "Allow", s.Allow("web", "db", false), api.OK)
	gives(t, "Acts", s.Acts("web", "other", true), api.OK)
	gives(t, "Rekey", s.Rekey("web"), api.OK)
	gives(t, "Trust", s.Trust("web", false), api.OK)
	gives(t, "Sense", s.Sense("db", true), api.OK)
	gives(t, "Add", s.Add(plain("x")[0]), api.OK)
	if is := state(other, "db", "web"); is != was {
		t.Errorf("%s was %s", is, was)
	}
	none(t, other, "x")
	if l := empty.Names(); len(l) != 0 {
		t.Error(l)
	}
	gives(t, "Allow", other.Allow("web", "x", true), api.ErrWho)
}
