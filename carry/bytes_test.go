package carry_test

import (
	"math"
	"strings"
	"testing"

	"legate/api"
	"legate/carry"
	"legate/derive"
	"legate/term"
)

// TestKnownBytes were reckoned by another program, Python's HMAC.
func TestKnownBytes(t *testing.T) {
	for _, c := range []struct {
		key          api.Term
		secret, want string
	}{
		{ann, "secret", "850b91f92b0c8eca45f2013f6fe206757d6d83c9dfc120e2d3298b23d2f44810"},
		{term.Key("", 1), "secret", "5665570320a511d06cf2538abb9eae1aac0707c3f98538c98e478e1e24459ef3"},
		{term.Key("", -1), "", "83e563b5e7d5a464b6d18eecb7672328ca2bd29c576e23ac07fbbbf9480e28d9"},
		{term.Key(strings.Repeat("z", 40), math.MaxInt), strings.Repeat("\x00\xff", 50), "d10508fe4face84f4fda6ecded5a0cefa2dc52bcd43c63ff295817e2da9b9803"},
	} {
		if got := carry.Bytes(c.key, c.secret); got != raw(t, c.want) {
			t.Errorf("%s: %x", term.Text(c.key), got)
		}
	}
}

// owners are whose keys there may be: nobody's, those of names, and those of texts that are no names.
func owners() []string {
	return []string{"", "a", "ann", "web", "1", "host/web.example", strings.Repeat("z", 40), strings.Repeat("z", 41), "A", "a b", "\x00", "\xff\xfe", strings.Repeat("ann", 10000)}
}

func TestBytesAtEdges(t *testing.T) {
	for _, secret := range someSecrets() {
		for _, n := range someNumbers() {
			for _, s := range owners() {
				want := derive.Long(s, n, secret)
				if s == "" {
					want = derive.Session(n, secret)
				}
				got := carry.Bytes(term.Key(s, n), secret)
				if got != want || got != keyBytes(term.Key(s, n), secret) || len(got) != 32 {
					t.Errorf("owner of %d bytes, %d, secret of %d bytes: %x", len(s), n, len(secret), got)
				}
			}
		}
	}
}

func TestUnlikeKeysHaveUnlikeBytes(t *testing.T) {
	seen := map[string]bool{}
	for _, secret := range []string{"", "s", "secret"} {
		for _, n := range someNumbers() {
			for _, s := range owners() {
				b := carry.Bytes(term.Key(s, n), secret)
				if seen[b] {
					t.Errorf("owner of %d bytes, %d, %q: bytes of another one", len(s), n, secret)
				}
				seen[b] = true
			}
		}
	}
}

// TestBytesOfWhatIsNoKey hang on the owner and the number alone.
func TestBytesOfWhatIsNoKey(t *testing.T) {
	itself := api.Term{K: api.TmKey, S: "ann", N: 1, L: make([]api.Term, 1)}
	itself.L[0] = itself
	for i, x := range []api.Term{{S: "ann", N: 1}, {K: api.TmList, S: "ann", N: 1, L: []api.Term{ann, web}}, {K: -1, S: "ann", N: 1}, {K: 99, S: "ann", N: 1}, itself} {
		if carry.Bytes(x, "s") != derive.Long("ann", 1, "s") {
			t.Error(i)
		}
	}
	for i, x := range []api.Term{{}, {K: api.TmList, L: []api.Term{ann}}, {K: 99}} {
		if carry.Bytes(x, "s") != derive.Session(0, "s") {
			t.Error(i)
		}
	}
}
