package policy_test

import (
	"fmt"
	"slices"
	"strconv"
	"strings"
	"testing"

	"legate/api"
	"legate/policy"
	"legate/term"
)

// named are the names from that one on, up to ahead of the other: p10, p11 and so on.
func named(from, to int) []string {
	var l []string
	for n := from; n < to; n++ {
		l = append(l, "p"+strconv.Itoa(n))
	}
	return l
}

// added is a store of these principals.
func added(t *testing.T, ps ...api.Principal) *policy.Store {
	t.Helper()
	s := policy.New()
	for _, p := range ps {
		gives(t, "Add of "+p.Name, s.Add(p), api.OK)
	}
	return s
}

// plain are principals of which nothing is set.
func plain(names ...string) []api.Principal {
	var l []api.Principal
	for _, n := range names {
		l = append(l, api.Principal{Name: n, Version: 1})
	}
	return l
}

// rich is a principal of which all is set.
func rich() api.Principal {
	return api.Principal{Name: "web", Version: 3, Transition: true, Sensitive: true, Allowed: []string{"db", "none", "web"}, Acts: []string{"x", "db"}, Groups: []int{7, -7, 0, 7}, Life: 600}
}

// brief is a thing as a text that may be told, however long its names are.
func brief(x any) string {
	s := fmt.Sprintf("%+q", fmt.Sprintf("%+v", x))
	return s[:min(len(s), 600)]
}

func gives(t *testing.T, what string, got, want api.Errno) {
	t.Helper()
	if got != want {
		t.Errorf("%s: %v, not %v", brief(what), got, want)
	}
}

// alike tells whether two principals are the same in each field.
func alike(a, b api.Principal) bool {
	return a.Name == b.Name && a.Version == b.Version && a.Transition == b.Transition && a.Sensitive == b.Sensitive &&
		slices.Equal(a.Allowed, b.Allowed) && slices.Equal(a.Acts, b.Acts) && slices.Equal(a.Groups, b.Groups) && a.Life == b.Life
}

// has holds that a store has just that principal of its name.
func has(t *testing.T, s *policy.Store, want api.Principal) {
	t.Helper()
	if p, e := s.Get(want.Name); e != api.OK || !alike(p, want) {
		t.Errorf("%s, %v, not %s", brief(p), e, brief(want))
	}
}

// none holds that a store has no principal of that name.
func none(t *testing.T, s *policy.Store, name string) {
	t.Helper()
	if p, e := s.Get(name); e != api.ErrWho || !alike(p, api.Principal{}) {
		t.Errorf("Get of %s: %s, %v", brief(name), brief(p), e)
	}
	if k, e := s.Key(name); e != api.ErrWho || !term.Same(k, api.Term{}) {
		t.Errorf("Key of %s: %s, %v", brief(name), brief(k), e)
	}
}

// may holds what May tells.
func may(t *testing.T, s *policy.Store, a, b string, allowed, acts bool) {
	t.Helper()
	if x, y := s.May(a, b); x != allowed || y != acts {
		t.Errorf("May of %s and %s is %v, %v, not %v, %v", brief(a), brief(b), x, y, allowed, acts)
	}
}

// state is all that a store answers of its own principals, and of these names, as a text.
func state(s *policy.Store, names ...string) string {
	var b strings.Builder
	all := s.Names()
	fmt.Fprintln(&b, all)
	for _, n := range append(all, names...) {
		p, e := s.Get(n)
		k, f := s.Key(n)
		fmt.Fprintf(&b, "%+v %v %s %v\n", p, e, term.Text(k), f)
		for _, o := range names {
			x, y := s.May(n, o)
			fmt.Fprint(&b, x, y, " ")
		}
	}
	return b.String()
}

// refuses holds that a call gives an error, and changes nothing.
func refuses(t *testing.T, s *policy.Store, what string, want api.Errno, call func() api.Errno) {
	t.Helper()
	was := state(s)
	gives(t, what, call(), want)
	if is := state(s); is != was {
		t.Errorf("%s: %s was %s", brief(what), brief(is), brief(was))
	}
}

// odd are names that are none, and one that is, of nobody.
func odd() []string {
	return []string{"", "A", "a b", "a_b", "\x00", "\xff", "é", strings.Repeat("z", 41), strings.Repeat("z", 1<<20), "nobody", strings.Repeat("z", 40)}
}

func TestExample(t *testing.T) {
	s := added(t, plain("web", "db")...)
	may(t, s, "web", "db", false, false)
	gives(t, "Allow", s.Allow("web", "db", true), api.OK)
	may(t, s, "web", "db", true, false)
}

func TestNewStore(t *testing.T) {
	s := policy.New()
	if s == nil {
		t.Fatal("no store")
	}
	if l := s.Names(); len(l) != 0 {
		t.Error(l)
	}
	for _, n := range append(odd(), "a", "web", api.Centre) {
		none(t, s, n)
	}
}

// TestCallsOfNobody end, give ErrWho, and let nobody come to be.
func TestCallsOfNobody(t *testing.T) {
	for _, s := range []*policy.Store{policy.New(), added(t, rich(), plain("db")[0])} {
		for _, n := range odd() {
			none(t, s, n)
			refuses(t, s, "Rekey", api.ErrWho, func() api.Errno { return s.Rekey(n) })
			for _, on := range []bool{true, false} {
				refuses(t, s, "Trust", api.ErrWho, func() api.Errno { return s.Trust(n, on) })
				refuses(t, s, "Sense", api.ErrWho, func() api.Errno { return s.Sense(n, on) })
				for _, o := range append(odd(), "web") {
					refuses(t, s, "Allow", api.ErrWho, func() api.Errno { return s.Allow(n, o, on) })
					refuses(t, s, "Allow", api.ErrWho, func() api.Errno { return s.Allow(o, n, on) })
					refuses(t, s, "Acts", api.ErrWho, func() api.Errno { return s.Acts(n, o, on) })
					refuses(t, s, "Acts", api.ErrWho, func() api.Errno { return s.Acts(o, n, on) })
					may(t, s, n, o, false, false)
				}
			}
			none(t, s, n)
		}
	}
}

// TestNamesAreSorted byte by byte, however they came.
func TestNamesAreSorted(t *testing.T) {
	l := []string{"web", "a", "b", "-", ".", "/", "0", "9", "a-", "a0", "aa", "a/b", "ab", "z", "10", "2", strings.Repeat("a", 40)}
	want := []string{"-", ".", "/", "0", "10", "2", "9", "a", "a-", "a/b", "a0", "aa", strings.Repeat("a", 40), "ab", "b", "web", "z"}
	s := policy.New()
	for i, n := range l {
		gives(t, "Add", s.Add(plain(n)[0]), api.OK)
		if got := s.Names(); len(got) != i+1 || !slices.IsSorted(got) || !slices.Contains(got, n) {
			t.Errorf("%q", got)
		}
	}
	for range 20 {
		if got := s.Names(); !slices.Equal(got, want) {
			t.Errorf("%q, not %q", got, want)
		}
	}
	slices.Reverse(l)
	if got := added(t, plain(l...)...).Names(); !slices.Equal(got, want) {
		t.Errorf("%q, not %q", got, want)
	}
}
