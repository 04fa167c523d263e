package carry_test

import (
	librarysAes "crypto/aes"
	"crypto/cipher"
	librarysHmac "crypto/hmac"
	"crypto/sha256"
	"encoding/binary"
	"encoding/hex"
	"math"
	"strings"
	"testing"

	"legate/api"
	"legate/carry"
	"legate/term"
)

// What the chapter spells is spelt here by the library alone, but for the texts of terms: nothing of wire, hmac, derive or seal.

// raw is bytes that are written in hexadecimal digits, with spaces between as one likes.
func raw(t *testing.T, s string) string {
	t.Helper()
	b, err := hex.DecodeString(strings.ReplaceAll(s, " ", ""))
	if err != nil {
		t.Fatal(err)
	}
	return string(b)
}

func mac(key, s string) string {
	h := librarysHmac.New(sha256.New, []byte(key))
	h.Write([]byte(s))
	return string(h.Sum(nil))
}

func number(n int) string {
	return string(binary.BigEndian.AppendUint64(nil, uint64(n)))
}

// keyBytes are a key's bytes: of a session, if it is nobody's.
func keyBytes(k api.Term, secret string) string {
	if k.S == "" {
		return mac(secret, "session\x00"+number(k.N))
	}
	return mac(secret, "long\x00"+number(k.N)+k.S)
}

func keyOfUse(base string, use int, label string) string {
	return mac(base, label+"\x00"+number(use))
}

// leaf is an item of bytes, of whatever length.
func leaf(tag byte, s string) string {
	n := len(s)
	digits := string([]byte{byte(n % 128)})
	for n /= 128; n > 0; n /= 128 {
		digits = string([]byte{byte(n%128 + 128)}) + digits
	}
	return string([]byte{tag}) + digits + s
}

// node is an item of items.
func node(tag byte, l ...string) string {
	return leaf(tag+128, strings.Join(l, ""))
}

// sealed is an item 5 with that body, whatever it is.
func sealed(base string, use byte, nonce, body string) string {
	return leaf(5, string([]byte{use})+sealText(base, int(use), nonce, body))
}

func sealText(base string, use int, nonce, body string) string {
	c, err := librarysAes.NewCipher([]byte(keyOfUse(base, use, "cipher")[:16]))
	if err != nil {
		panic(err)
	}
	b := make([]byte, len(body))
	cipher.NewCTR(c, []byte(nonce+"\x00\x00\x00\x00")).XORKeyStream(b, []byte(body))
	s := nonce + string(b)
	return s + mac(keyOfUse(base, use, "sum"), s)
}

// summed is an item 6 of that body, with its sum.
func summed(base string, use int, body string) string {
	return node(6, leaf(2, number(use)), body, leaf(7, sumText(base, use, body)))
}

func sumText(base string, use int, body string) string {
	return mac(keyOfUse(base, use, "check"), body)
}

func nonceOf(x api.Term, secret string) string {
	return mac(secret, "nonce\x00"+term.Text(x))[:12]
}

// spelt is what a valid term is packed as, of whatever length.
func spelt(x api.Term, secret string) string {
	switch x.K {
	case api.TmName:
		return leaf(1, x.S)
	case api.TmNum:
		return leaf(2, number(x.N))
	case api.TmKey:
		return leaf(3, keyBytes(x, secret))
	case api.TmList:
		var l []string
		for _, y := range x.L {
			l = append(l, spelt(y, secret))
		}
		return node(4, l...)
	case api.TmSeal:
		return sealed(keyBytes(x.L[0], secret), byte(x.N), nonceOf(x, secret), spelt(x.L[1], secret))
	case api.TmSum:
		return summed(keyBytes(x.L[0], secret), x.N, spelt(x.L[1], secret))
	}
	panic("no valid term")
}

// Keys of which the tests are made.
var (
	ann     = term.Key("ann", 1)
	web     = term.Key("web", 2)
	session = term.Key("", 7)
)

// one is a term that is as plain as can be.
var one = term.Num(1)

// kinds are the ways in which a term stands in another one.
func kinds() []func(x api.Term) api.Term {
	return []func(x api.Term) api.Term{
		func(x api.Term) api.Term { return term.List(x) },
		func(x api.Term) api.Term { return term.List(term.Of("a"), x, term.List()) },
		func(x api.Term) api.Term { return term.Seal(ann, 2, x) },
		func(x api.Term) api.Term { return term.Sum(session, 3, x) },
	}
}

// nested is a term in n others, by one way and another in turn.
func nested(n int, x api.Term, f, g func(x api.Term) api.Term) api.Term {
	for i := range n {
		if i%2 == 0 {
			x = f(x)
		} else {
			x = g(x)
		}
	}
	return x
}

// inLists is a term in n lists.
func inLists(n int, x api.Term) api.Term {
	for range n {
		x = term.List(x)
	}
	return x
}

// sized is a valid term, of names and lists, that is written with n bytes; not each n has one.
func sized(t *testing.T, n int) api.Term {
	t.Helper()
	if n == 2 {
		return term.List()
	}
	if n <= 42 {
		return term.Of(strings.Repeat("a", n-2))
	}
	room := n - 2
	if room > 127 {
		room = n - 3
	}
	if room > 16383 {
		room = n - 4
	}
	var l []api.Term
	for k := min(64, room/3); k > 0; k-- {
		l = append(l, sized(t, room/k))
		room -= room / k
	}
	x := term.List(l...)
	if s := spelt(x, ""); len(s) != n || !term.Valid(x) {
		t.Fatalf("%d bytes, not %d", len(s), n)
	}
	return x
}

func someNumbers() []int {
	return []int{0, 1, 2, 3, 127, 128, 255, 256, 258, 1 << 32, 1 << 40, 0x0102030405060708, math.MaxInt - 1, math.MaxInt,
		-1, -2, -255, -256, -1 << 40, math.MinInt + 1, math.MinInt}
}

func someSecrets() []string {
	return []string{"", "s", "secret", "\x00", "\xff\x00\x80", strings.Repeat("k", 64), strings.Repeat("k", 65), strings.Repeat("\x00\xff", 5000), strings.Repeat("long ", 1<<12)}
}

// mustPack is what a term is packed as, without an error.
func mustPack(t *testing.T, x api.Term, secret string) string {
	t.Helper()
	s, e := carry.Pack(x, secret)
	if e != api.OK {
		t.Fatalf("%.80s: %v", term.Text(x), e)
	}
	return s
}

// packs holds that a term is packed as the chapter spells it.
func packs(t *testing.T, x api.Term, secret string) {
	t.Helper()
	if got, want := mustPack(t, x, secret), spelt(x, secret); got != want {
		t.Errorf("%.80s: %.80x, not %.80x", term.Text(x), got, want)
	}
}

// packsNot holds that a term is not packed, for that error.
func packsNot(t *testing.T, what string, x api.Term, want api.Errno) {
	t.Helper()
	for _, secret := range []string{"", "secret"} {
		if s, e := carry.Pack(x, secret); s != "" || e != want {
			t.Errorf("%s: %d bytes, %v, not %v", what, len(s), e, want)
		}
	}
}

// alike tells whether two terms are the same in each field, by the plainest way.
func alike(a, b api.Term) bool {
	if a.K != b.K || a.S != b.S || a.N != b.N || len(a.L) != len(b.L) {
		return false
	}
	for i := range a.L {
		if !alike(a.L[i], b.L[i]) {
			return false
		}
	}
	return true
}

// unpacks holds that a text is unpacked as that term.
func unpacks(t *testing.T, what, s, secret string, keys []api.Term, want api.Term) {
	t.Helper()
	if got, e := carry.Unpack(s, secret, keys); e != api.OK || !alike(got, want) {
		t.Errorf("%s: %.80s, %v, not %.80s", what, term.Text(got), e, term.Text(want))
	}
}

// unpacksNot holds that a text is not unpacked, for that error.
func unpacksNot(t *testing.T, what, s, secret string, keys []api.Term, want api.Errno) {
	t.Helper()
	if got, e := carry.Unpack(s, secret, keys); e != want || !alike(got, api.Term{}) {
		t.Errorf("%s: %.80s, %v, not %v", what, term.Text(got), e, want)
	}
}

// unpacked is a text's term, by the secret and the keys that most tests have.
func unpacked(s string) (api.Term, api.Errno) {
	return carry.Unpack(s, "s", keys)
}
