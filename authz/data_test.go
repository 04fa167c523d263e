package authz_test

import (
	"math"
	"strings"
	"testing"

	"legate/api"
	"legate/authz"
	"legate/term"
)

func TestDataIsSevenTerms(t *testing.T) {
	long := strings.Repeat("z", 40)
	for _, c := range []struct {
		a    api.Auth
		want string
	}{
		{poor(), "[a [] 0 [] b 0 0]"},
		{rich(), "[ann [7 -1] 1 [web app] db 1 500]"},
		{api.Auth{User: "ann", Groups: []int{5}, Service: "web"}, "[ann [5] 0 [] web 0 0]"},
		{api.Auth{User: "ann", Groups: []int{3, 1, 2, 3, -3}, Service: "web"}, "[ann [3 1 2 3 -3] 0 [] web 0 0]"},
		{api.Auth{User: "ann", Transited: []string{"app"}, Service: "web"}, "[ann [] 0 [app] web 0 0]"},
		{api.Auth{User: "ann", Transited: []string{"z", "a", "z"}, Service: "web"}, "[ann [] 0 [z a z] web 0 0]"},
		{api.Auth{User: "ann", Service: "web", Origin: api.OriginLogin, Forwardable: true}, "[ann [] 0 [] web 1 0]"},
		{api.Auth{User: "ann", Service: "web", Origin: api.OriginTransition}, "[ann [] 1 [] web 0 0]"},
		{api.Auth{User: "ann", Service: "web", To: 1 << 40}, "[ann [] 0 [] web 0 1099511627776]"},
		{api.Auth{User: "web", Service: "ann", To: 1}, "[web [] 0 [] ann 0 1]"},
		{brink(), "[" + long + " [-9223372036854775808 3 -2 9223372036854775807 4 -9223372036854775808 3 -7 9223372036854775807 9 -9223372036854775808 3 -12 9223372036854775807 14 -9223372036854775808 3 -17 9223372036854775807 19] 1 [" + long + " a b c d e f " + long + "] " + long + " 1 1099511627776]"},
	} {
		d := authz.Data(c.a)
		if got := term.Text(d); got != c.want || !term.Valid(d) {
			t.Errorf("%s, not %s", brief(got), brief(c.want))
		}
	}
}

// TestDataOfWhatIsNotValid tells it as it is, too.
func TestDataOfWhatIsNotValid(t *testing.T) {
	for _, c := range []struct {
		a    api.Auth
		want string
	}{
		{api.Auth{}, "[ [] 0 []  0 0]"},
		{api.Auth{User: "A b", Service: "\xff", Origin: -1, To: -1}, "[A b [] -1 [] \xff 0 -1]"},
		{api.Auth{User: strings.Repeat("z", 41), Origin: 2, Forwardable: true, To: 1<<40 + 1}, "[" + strings.Repeat("z", 41) + " [] 2 []  1 1099511627777]"},
		{api.Auth{Origin: math.MinInt, To: math.MaxInt}, "[ [] -9223372036854775808 []  0 9223372036854775807]"},
		{api.Auth{Transited: make([]string, 9)}, "[ [] 0 [        ]  0 0]"},
		{api.Auth{Groups: make([]int, 21)}, "[ [" + strings.Repeat("0 ", 20) + "0] 0 []  0 0]"},
		{api.Auth{Groups: make([]int, 65), Transited: strings.Fields(strings.Repeat("A ", 65))}, "[ [" + strings.Repeat("0 ", 64) + "0] 0 [" + strings.Repeat("A ", 64) + "A]  0 0]"},
	} {
		if got := term.Text(authz.Data(c.a)); got != c.want || authz.Valid(c.a) {
			t.Errorf("%s, not %s", brief(got), brief(c.want))
		}
	}
}

// TestDataInEachField: no other field is set than its text tells.
func TestDataInEachField(t *testing.T) {
	want := api.Term{K: api.TmList, L: []api.Term{
		{K: api.TmName, S: "ann"},
		{K: api.TmList, L: []api.Term{{K: api.TmNum, N: 7}, {K: api.TmNum, N: -1}}},
		{K: api.TmNum, N: 1},
		{K: api.TmList, L: []api.Term{{K: api.TmName, S: "web"}, {K: api.TmName, S: "app"}}},
		{K: api.TmName, S: "db"},
		{K: api.TmNum, N: 1},
		{K: api.TmNum, N: 500},
	}}
	if got := spell(authz.Data(rich())); got != spell(want) {
		t.Errorf("%s, not %s", got, spell(want))
	}
}
