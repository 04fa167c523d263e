package carry_test

import (
	"strings"
	"testing"

	"legate/api"
	"legate/carry"
	"legate/seal"
	"legate/term"
	"legate/wire"
)

// nonceIn is the nonce that a seal is packed with.
func nonceIn(t *testing.T, x api.Term, secret string) string {
	t.Helper()
	i, e := wire.Get(mustPack(t, x, secret))
	if e != api.OK || i.Node || i.Tag != 5 || len(i.S) < 13 {
		t.Fatal(term.Text(x), e)
	}
	return i.S[1:13]
}

func TestNonceIsOfSecretAndText(t *testing.T) {
	for _, secret := range someSecrets() {
		for _, x := range []api.Term{term.Seal(ann, 2, one), term.Seal(session, 255, term.List()), term.Seal(web, 1, term.Seal(ann, 2, one)), term.Seal(ann, 2, numbers(64))} {
			if got := nonceIn(t, x, secret); got != mac(secret, "nonce\x00"+term.Text(x))[:12] {
				t.Errorf("%s: %x", term.Text(x), got)
			}
		}
	}
}

func TestUnlikeSealsHaveUnlikeNonces(t *testing.T) {
	seen := map[string]bool{}
	for _, secret := range []string{"", "s", "secret"} {
		for _, key := range []api.Term{ann, web, session, term.Key("ann", 2), term.Key("", 1)} {
			for _, use := range []int{1, 2, 254, 255} {
				for _, body := range []api.Term{one, term.Of("x"), term.List(one), ann, term.Sum(ann, 1, one), term.Seal(ann, 1, one)} {
					n := nonceIn(t, term.Seal(key, use, body), secret)
					if seen[n] {
						t.Errorf("%s: the nonce of another one", term.Text(term.Seal(key, use, body)))
					}
					seen[n] = true
				}
			}
		}
	}
}

// TestSameTextSameNonce: a name that looks like a number has that number's text.
func TestSameTextSameNonce(t *testing.T) {
	a, b := term.Seal(ann, 2, term.Of("12")), term.Seal(ann, 2, term.Num(12))
	if nonceIn(t, a, "s") != nonceIn(t, b, "s") {
		t.Error("another nonce")
	}
	unpacks(t, "a name", mustPack(t, a, "s"), "s", []api.Term{ann}, a)
	unpacks(t, "a number", mustPack(t, b, "s"), "s", []api.Term{ann}, b)
}

// TestNonceHangsNotOnThePlace: a seal is packed as the same bytes, wherever it stands.
func TestNonceHangsNotOnThePlace(t *testing.T) {
	x := term.Seal(ann, 2, term.Of("hello"))
	alone := mustPack(t, x, "s")
	for i, y := range []api.Term{term.List(x), term.List(one, x, one), term.List(term.List(), term.List(x)), term.Sum(web, 3, x), term.Sum(ann, 2, term.List(x))} {
		if strings.Count(mustPack(t, y, "s"), alone) != 1 {
			t.Error(i)
		}
	}
	if s := mustPack(t, term.List(x, x, term.Sum(web, 3, x)), "s"); strings.Count(s, alone) != 3 {
		t.Errorf("%x", s)
	}
	for i, body := range []api.Term{x, term.List(one, x), term.Sum(web, 3, x)} {
		item, _ := wire.Get(mustPack(t, term.Seal(web, 9, body), "s"))
		s, e := seal.Open(carry.Bytes(web, "s"), 9, item.S[1:])
		if e != api.OK || strings.Count(s, alone) != 1 {
			t.Error(i, e)
		}
	}
}
