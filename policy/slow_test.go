package policy_test

import (
	"fmt"
	"math/rand"
	"strings"
	"sync"
	"testing"

	"legate/api"
	"legate/policy"
)

// slow is a store by the chapter's sentences alone: a list of principals, gone through from the first one on.
type slow struct{ ps []api.Principal }

func (s *slow) at(name string) int {
	for i := range s.ps {
		if s.ps[i].Name == name {
			return i
		}
	}
	return -1
}

func in(l []string, name string) bool {
	for _, n := range l {
		if n == name {
			return true
		}
	}
	return false
}

// oddList tells whether names may not be a list.
func oddList(l []string) bool {
	for i, n := range l {
		if len(n) < 1 || len(n) > 40 || strings.Trim(n, "abcdefghijklmnopqrstuvwxyz0123456789-./") != "" {
			return true
		}
		for _, m := range l[i+1:] {
			if n == m {
				return true
			}
		}
	}
	return len(l) > 50
}

func (s *slow) Add(p api.Principal) api.Errno {
	if oddList([]string{p.Name}) || oddList(p.Allowed) || oddList(p.Acts) || p.Version < 1 || p.Version > 1000 || p.Life < 0 || p.Life > 1099511627776 || len(p.Groups) > 20 {
		return api.ErrArg
	}
	if s.at(p.Name) >= 0 {
		return api.ErrTwice
	}
	if len(s.ps) == 100 {
		return api.ErrFull
	}
	s.ps = append(s.ps, p)
	return api.OK
}

func (s *slow) Get(name string) (api.Principal, api.Errno) {
	if s.at(name) < 0 {
		return api.Principal{}, api.ErrWho
	}
	return s.ps[s.at(name)], api.OK
}

func (s *slow) Key(name string) (api.Term, api.Errno) {
	if s.at(name) < 0 {
		return api.Term{}, api.ErrWho
	}
	return api.Term{K: api.TmKey, S: name, N: s.ps[s.at(name)].Version}, api.OK
}

func (s *slow) Rekey(name string) api.Errno {
	i := s.at(name)
	if i < 0 {
		return api.ErrWho
	}
	if s.ps[i].Version == 1000 {
		return api.ErrFull
	}
	s.ps[i].Version++
	return api.OK
}

// set is a list as it is then; it is always a new one.
func (s *slow) set(l []string, b string, on bool) ([]string, api.Errno) {
	if on && in(l, b) {
		return l, api.OK
	}
	if on && len(l) == 50 {
		return l, api.ErrFull
	}
	var m []string
	for _, n := range l {
		if n != b {
			m = append(m, n)
		}
	}
	if on {
		m = append(m, b)
	}
	return m, api.OK
}

func (s *slow) Allow(a, b string, on bool) (e api.Errno) {
	if s.at(a) < 0 || s.at(b) < 0 {
		return api.ErrWho
	}
	p := &s.ps[s.at(a)]
	p.Allowed, e = s.set(p.Allowed, b, on)
	return e
}

func (s *slow) Acts(a, b string, on bool) (e api.Errno) {
	if s.at(a) < 0 || s.at(b) < 0 {
		return api.ErrWho
	}
	p := &s.ps[s.at(a)]
	p.Acts, e = s.set(p.Acts, b, on)
	return e
}

func (s *slow) Trust(a string, on bool) api.Errno {
	if s.at(a) < 0 {
		return api.ErrWho
	}
	s.ps[s.at(a)].Transition = on
	return api.OK
}

func (s *slow) Sense(a string, on bool) api.Errno {
	if s.at(a) < 0 {
		return api.ErrWho
	}
	s.ps[s.at(a)].Sensitive = on
	return api.OK
}

func (s *slow) May(a, b string) (bool, bool) {
	return s.at(a) >= 0 && in(s.ps[s.at(a)].Allowed, b), s.at(b) >= 0 && in(s.ps[s.at(b)].Acts, a)
}

func (s *slow) Names() []string {
	var l []string
	for _, p := range s.ps {
		l = append(l, p.Name)
		for k := len(l) - 1; k > 0 && l[k-1] > l[k]; k-- {
			l[k-1], l[k] = l[k], l[k-1]
		}
	}
	return l
}

// store is what can be called of a store, be it slow or not.
type store interface {
	Add(p api.Principal) api.Errno
	Get(name string) (api.Principal, api.Errno)
	Key(name string) (api.Term, api.Errno)
	Rekey(name string) api.Errno
	Allow(a, b string, on bool) api.Errno
	Acts(a, b string, on bool) api.Errno
	Trust(a string, on bool) api.Errno
	Sense(a string, on bool) api.Errno
	May(a, b string) (bool, bool)
	Names() []string
}

// call is one of a store's calls, and what it is handed.
type call struct {
	what string
	a, b string
	on   bool
	p    api.Principal
}

// do calls a store, and tells all that it answers as a text.
func do(s store, c call) string {
	switch c.what {
	case "Add":
		return s.Add(c.p).Error()
	case "Get":
		p, e := s.Get(c.a)
		return fmt.Sprintf("%+v %v", p, e)
	case "Key":
		k, e := s.Key(c.a)
		return fmt.Sprintf("%+v %v", k, e)
	case "Rekey":
		return s.Rekey(c.a).Error()
	case "Allow":
		return s.Allow(c.a, c.b, c.on).Error()
	case "Acts":
		return s.Acts(c.a, c.b, c.on).Error()
	case "Trust":
		return s.Trust(c.a, c.on).Error()
	case "Sense":
		return s.Sense(c.a, c.on).Error()
	case "May":
		return fmt.Sprint(s.May(c.a, c.b))
	}
	return fmt.Sprint(s.Names())
}

// chance makes calls of few names, so that they meet; sizes are how many names a list has at first.
type chance struct {
	*rand.Rand
	names    []string
	sizes    []int
	versions []int
}

func (r chance) pick(l ...string) string { return l[r.Intn(len(l))] }

func (r chance) list() []string {
	var l []string
	n := r.sizes[r.Intn(len(r.sizes))]
	for _, i := range r.Perm(len(r.names))[:n] {
		l = append(l, r.names[i])
	}
	if r.Intn(20) == 0 {
		l = append(l, r.pick("", "A", strings.Repeat("z", 41), "none", r.pick(r.names...)))
	}
	return l
}

func (r chance) principal(name string) api.Principal {
	p := api.Principal{Name: name, Version: r.versions[r.Intn(len(r.versions))], Transition: r.Intn(2) == 0, Sensitive: r.Intn(2) == 0, Allowed: r.list(), Acts: r.list(), Life: r.Intn(1000)}
	for range r.Intn(4) {
		p.Groups = append(p.Groups, r.Intn(9)-4)
	}
	switch r.Intn(30) {
	case 0:
		p.Life = []int{-1, 1 << 40, 1<<40 + 1}[r.Intn(3)]
	case 1:
		p.Groups = make([]int, 19+r.Intn(3))
	case 2:
		p.Version = []int{0, 1000, 1001}[r.Intn(3)]
	}
	return p
}

func (r chance) call() call {
	c := call{what: r.pick("Add", "Rekey", "Allow", "Allow", "Allow", "Acts", "Acts", "Acts", "Trust", "Sense", "Get", "Key", "May", "Names"), a: r.pick(r.names...), b: r.pick(r.names...), on: r.Intn(5) > 1}
	if r.Intn(40) == 0 {
		c.a = r.pick(odd()...)
	}
	if r.Intn(40) == 0 {
		c.b = r.pick(odd()...)
	}
	if c.what == "Add" {
		c.p = r.principal(c.a)
	}
	return c
}

// small are few principals, whose lists are mostly short.
func small(seed int64) chance {
	return chance{rand.New(rand.NewSource(seed)), []string{"a", "b", "db", "web", "x", "z"}, []int{0, 0, 1, 2, 4}, []int{1, 2, 500}}
}

// tight are so many that there is hardly room for them, nor in their lists, nor for new keys.
func tight(seed int64) chance {
	return chance{rand.New(rand.NewSource(seed)), named(0, 110), []int{0, 48, 49, 50}, []int{1, 998, 999, 1000}}
}

// holdsTo holds a store to a slow one, of all that can be asked of these names.
func holdsTo(t *testing.T, s *policy.Store, want *slow, names []string) {
	t.Helper()
	asks := []call{{what: "Names"}}
	for _, a := range names {
		asks = append(asks, call{what: "Get", a: a}, call{what: "Key", a: a})
		for _, b := range names {
			asks = append(asks, call{what: "May", a: a, b: b})
		}
	}
	for _, c := range asks {
		if got, w := do(s, c), do(want, c); got != w {
			t.Fatalf("%s: %s, not %s", brief(c), brief(got), brief(w))
		}
	}
}

// steps runs as many calls on both stores, and holds all that they answer; seen counts each call's answers.
func steps(t *testing.T, r chance, s *policy.Store, want *slow, n int, seen map[string]int, look func()) {
	t.Helper()
	for range n {
		c := r.call()
		got, w := do(s, c), do(want, c)
		if got != w {
			t.Fatalf("%s: %s, not %s", brief(c), brief(got), brief(w))
		}
		seen[c.what+": "+w]++
		if policy.Valid(c.p) != (new(slow).Add(c.p) == api.OK) {
			t.Fatalf("valid, or not: %s", brief(c.p))
		}
		look()
	}
}

// met holds that each of these was answered often: else the calls of chance would tell nothing of it.
func met(t *testing.T, seen map[string]int, l ...string) {
	t.Helper()
	for _, w := range l {
		if seen[w] < 20 {
			t.Errorf("%s: %d times alone", w, seen[w])
		}
	}
}

func TestLikeTheChaptersSentences(t *testing.T) {
	seen := map[string]int{}
	for seed := range int64(150) {
		r := small(seed)
		s, want := policy.New(), &slow{}
		steps(t, r, s, want, 120, seen, func() { holdsTo(t, s, want, append(r.names, "none", "")) })
	}
	for _, w := range []string{"Rekey", "Allow", "Acts", "Trust", "Sense"} {
		met(t, seen, w+": error 0", w+": error 40")
	}
	met(t, seen, "Add: error 0", "Add: error 1", "Add: error 41", "May: false false", "May: true false", "May: false true", "May: true true")
}

// crowded are a store and a slow one with 98 principals.
func crowded(t *testing.T, r chance) (*policy.Store, *slow) {
	t.Helper()
	s, want := policy.New(), &slow{}
	for _, i := range r.Perm(len(r.names))[:98] {
		for e := api.ErrArg; e != api.OK; {
			p := r.principal(r.names[i])
			e = want.Add(p)
			gives(t, "Add", s.Add(p), e)
		}
	}
	return s, want
}

func TestLikeTheChaptersSentencesAtTheLimits(t *testing.T) {
	seen := map[string]int{}
	for seed := range int64(20) {
		r := tight(seed)
		s, want := crowded(t, r)
		for range 2 {
			steps(t, r, s, want, 500, seen, func() {})
			holdsTo(t, s, want, r.names)
		}
	}
	for _, w := range []string{"Rekey", "Allow", "Acts"} {
		met(t, seen, w+": error 0", w+": error 40", w+": error 53")
	}
	met(t, seen, "Add: error 0", "Add: error 1", "Add: error 41", "Add: error 53")
}

// told are all answers of a store to these calls, if it is asked else between so often.
func told(l []call, often int) []string {
	s := policy.New()
	var all []string
	for i, c := range l {
		all = append(all, do(s, c))
		for k := range often {
			ask := l[(i+k)%len(l)]
			s.Get(ask.a)
			s.Key(ask.b)
			s.May(ask.a, ask.b)
			s.Names()
			policy.Valid(ask.p)
		}
	}
	return append(all, state(s, "a", "web", "p1", "none"))
}

// TestSameCallsSameAnswers, whatever is asked between, and by many at once, each of a store of its own.
func TestSameCallsSameAnswers(t *testing.T) {
	for seed := range int64(10) {
		var l []call
		few, many := small(seed), tight(seed)
		for range 300 {
			l = append(l, few.call(), many.call())
		}
		want := told(l, 0)
		var w sync.WaitGroup
		for n := range 8 {
			w.Go(func() {
				for i, got := range told(l, n%3) {
					if got != want[i] {
						t.Errorf("%d: %s, not %s", i, brief(got), brief(want[i]))
					}
				}
			})
		}
		w.Wait()
	}
}
