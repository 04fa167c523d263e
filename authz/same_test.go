package authz_test

import (
	"math"
	"slices"
	"testing"

	"legate/api"
	"legate/authz"
)

// same holds whether two are the same, asked both ways, and whether their Data tells them apart.
func same(t *testing.T, want bool, a, b api.Auth) {
	t.Helper()
	if authz.Same(a, b) != want || authz.Same(b, a) != want {
		t.Errorf("%v: %s, %s", !want, brief(tell(a)), brief(tell(b)))
	}
	if (spell(authz.Data(a)) == spell(authz.Data(b))) != want {
		t.Errorf("Data: %v: %s, %s", !want, brief(tell(a)), brief(tell(b)))
	}
}

// others are ways in which words differ from any others by one field alone.
func others() []func(a *api.Auth) {
	return []func(a *api.Auth){
		func(a *api.Auth) { a.User += "x" },
		func(a *api.Auth) { a.User = "A" },
		func(a *api.Auth) { a.User = "" },
		func(a *api.Auth) { a.Service += "x" },
		func(a *api.Auth) { a.Service = "" },
		func(a *api.Auth) { a.Origin++ },
		func(a *api.Auth) { a.Origin = -1 },
		func(a *api.Auth) { a.Origin += 1 << 32 },
		func(a *api.Auth) { a.Forwardable = !a.Forwardable },
		func(a *api.Auth) { a.To++ },
		func(a *api.Auth) { a.To = math.MinInt },
		func(a *api.Auth) { a.To += 1 << 32 },
		func(a *api.Auth) { a.Groups = append(a.Groups, 0) },
		func(a *api.Auth) { a.Groups = append([]int{0}, a.Groups...) },
		func(a *api.Auth) { a.Groups = append(a.Groups, 1, 2) },
		func(a *api.Auth) { a.Transited = append(a.Transited, "") },
		func(a *api.Auth) { a.Transited = append(a.Transited, "web") },
		func(a *api.Auth) { a.Transited = append([]string{"x"}, a.Transited...) },
	}
}

func TestSameOfWhatDiffersInOneField(t *testing.T) {
	for _, from := range []func() api.Auth{rich, poor, brink, func() api.Auth { return api.Auth{} }} {
		same(t, true, from(), from())
		for i, x := range others() {
			a := from()
			if x(&a); tell(a) == tell(from()) {
				continue
			}
			same(t, true, a, a)
			same(t, false, a, from())
			for _, y := range others()[:i] {
				b := from()
				y(&b)
				same(t, tell(a) == tell(b), a, b)
			}
		}
	}
}

// TestSameOfLists: they differ by a thing, by how many there are, and by their order.
func TestSameOfLists(t *testing.T) {
	numbers := [][]int{{}, {0}, {1}, {-1}, {0, 0}, {0, 1}, {1, 0}, {1, 1}, {1 << 32}, {1, 2, 3}, {1, 2, 4}, {1, 3, 2}, {3, 2, 1}, {0, 2, 3}, {1, 2}, {2, 3}}
	names := [][]string{{}, {""}, {"a"}, {"b"}, {"a", "a"}, {"a", "b"}, {"b", "a"}, {"ab"}, {"ab", ""}, {"", "ab"}, {"a b"}, {"a", "b", "c"}, {"a", "b", "d"}, {"a", "c", "b"}, {"x", "b", "c"}, {"b", "c"}}
	for i := range numbers {
		for k := range numbers {
			a, b := rich(), rich()
			a.Groups, b.Groups = slices.Clone(numbers[i]), slices.Clone(numbers[k])
			same(t, i == k, a, b)
		}
	}
	for i := range names {
		for k := range names {
			a, b := rich(), rich()
			a.Transited, b.Transited = slices.Clone(names[i]), slices.Clone(names[k])
			same(t, i == k, a, b)
		}
	}
}

func TestListsWithoutThingsAreAlike(t *testing.T) {
	for _, groups := range [][]int{nil, {}, make([]int, 0, 5)} {
		for _, names := range [][]string{nil, {}, make([]string, 0, 5)} {
			a := rich()
			a.Groups, a.Transited = groups, names
			b := rich()
			b.Groups, b.Transited = nil, []string{}
			same(t, true, a, b)
			b.Groups, b.Transited = []int{}, nil
			same(t, true, a, b)
			valid(t, true, "lists without things", a)
			same(t, false, a, rich())
			same(t, true, api.Auth{Groups: groups, Transited: names}, api.Auth{})
		}
	}
}

// TestRoomBehindListsIsNotAsked: what is behind the end of a list is not in it.
func TestRoomBehindListsIsNotAsked(t *testing.T) {
	a, b := rich(), rich()
	a.Groups, a.Transited = append(a.Groups, 1)[:2], append(a.Transited, "x")[:2]
	b.Groups, b.Transited = append(b.Groups, 2)[:2], append(b.Transited, "y")[:2]
	same(t, true, a, b)
	same(t, true, a, rich())
}
