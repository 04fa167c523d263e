package seal_test

import (
	librarysAes "crypto/aes"
	"crypto/cipher"
	librarysHmac "crypto/hmac"
	"crypto/sha256"
	"encoding/binary"
	"encoding/hex"
	"math"
	"math/rand"
	"strings"
	"sync"
	"testing"

	"legate/api"
	"legate/ctr"
	"legate/derive"
	"legate/hmac"
	"legate/seal"
)

// longest is how many bytes a body has at most.
const longest = 65536

// raw is bytes that are written in hexadecimal digits, with spaces between as one likes.
func raw(t *testing.T, s string) string {
	t.Helper()
	b, err := hex.DecodeString(strings.ReplaceAll(s, " ", ""))
	if err != nil {
		t.Fatal(err)
	}
	return string(b)
}

func byChance(r *rand.Rand, n int) string {
	b := make([]byte, n)
	r.Read(b)
	return string(b)
}

// letters are n bytes, of which those beside each other are unlike.
func letters(n int) string {
	return strings.Repeat("abcdefghijklmnopqrstuvwxyz", n/26+1)[:n]
}

func noughts(n int) string { return strings.Repeat("\x00", n) }

// basesAtEdges are of all lengths at which a key of HMAC is another thing: with bytes 00, and with bytes that are no text. No two of them are the same key.
func basesAtEdges() []string {
	l := []string{"", "k", "key", "kez", "\x00k", "k\x00k", "\xff", "\x80\xfe", "\xed\xa0\x80", "\xc3", "ein Schlüssel"}
	for _, n := range []int{16, 31, 32, 33, 63, 64, 65, 128, 300, 777} {
		l = append(l, letters(n), strings.Repeat("\xff", n), "\x00"+letters(n-1))
	}
	return append(l, noughts(65), noughts(300))
}

func usesAtEdges() []int {
	return []int{0, 1, 2, 3, 7, 8, 11, 14, 17, 18, 19, 255, 256, 1 << 32, math.MaxInt - 1, math.MaxInt,
		-1, -2, -256, -1 << 32, math.MinInt + 1, math.MinInt}
}

func noncesAtEdges() []string {
	return []string{"0123456789ab", noughts(12), strings.Repeat("\xff", 12), "\x00\x80\xfe\xc3\x28\x00\x00\x00\x00\x00\x00\x01", "\xff\xff\xff\xff\xff\xff\xff\xff\x00\x00\x00\x00"}
}

// bodiesAtEdges are about the edges of one block and of two, and of some hundreds of bytes; those about the longest are told by longBodies.
func bodiesAtEdges() []string {
	l := []string{"hello", "\x00", "\xff\x80\xc3\x28"}
	for _, n := range []int{0, 1, 15, 16, 17, 31, 32, 33, 63, 64, 65, 300, 777} {
		l = append(l, letters(n), noughts(n), strings.Repeat("\xff", n))
	}
	return l
}

func longBodies() []string {
	return []string{letters(4097), letters(longest - 1), letters(longest), noughts(longest)}
}

// libraryMac is the HMAC of the library, that is not written here.
func libraryMac(key, s string) string {
	h := librarysHmac.New(sha256.New, []byte(key))
	h.Write([]byte(s))
	return string(h.Sum(nil))
}

// libraryKey is a key for one use, of the library's HMAC.
func libraryKey(base string, use int, label string) string {
	return libraryMac(base, string(binary.BigEndian.AppendUint64([]byte(label+"\x00"), uint64(use))))
}

// libraryCipher is a text, ciphered by the library's counter mode.
func libraryCipher(t *testing.T, key, nonce, s string) string {
	t.Helper()
	c, err := librarysAes.NewCipher([]byte(key))
	if err != nil {
		t.Fatal(err)
	}
	b := make([]byte, len(s))
	cipher.NewCTR(c, []byte(nonce+noughts(4))).XORKeyStream(b, []byte(s))
	return string(b)
}

// librarySeal is what is sealed, by the library alone.
func librarySeal(t *testing.T, base string, use int, nonce, body string) string {
	t.Helper()
	s := nonce + libraryCipher(t, libraryKey(base, use, "cipher")[:16], nonce, body)
	return s + libraryMac(libraryKey(base, use, "sum"), s)
}

// spelt is what is sealed, as the chapter's sentence spells it by the layers below.
func spelt(base string, use int, nonce, body string) string {
	s := nonce + ctr.Cipher(derive.Cipher(base, use), nonce, body)
	return s + hmac.Mac(derive.Sum(base, use), s)
}

// sealed is what must be sealed without an error.
func sealed(t *testing.T, base string, use int, nonce, body string) string {
	t.Helper()
	s, e := seal.Seal(base, use, nonce, body)
	if e != api.OK {
		t.Fatalf("Seal(%x, %d, %x, %d bytes): %v", base, use, nonce, len(body), e)
	}
	return s
}

// hold holds what is sealed against the chapter's sentence and against the library, and opens it again.
func hold(t *testing.T, base string, use int, nonce, body string) {
	t.Helper()
	s := sealed(t, base, use, nonce, body)
	if len(s) != len(body)+44 {
		t.Fatalf("%d bytes, sealed, are %d", len(body), len(s))
	}
	if s != spelt(base, use, nonce, body) || s != librarySeal(t, base, use, nonce, body) {
		t.Fatalf("Seal(%x, %d, %x, %d bytes) is another text", base, use, nonce, len(body))
	}
	if got, e := seal.Open(base, use, s); got != body || e != api.OK {
		t.Fatalf("Seal(%x, %d, %x, %d bytes) is opened to %d bytes, %v", base, use, nonce, len(body), len(got), e)
	}
}

// TestExample: Seal of an empty body has 44 bytes.
func TestExample(t *testing.T) {
	if seal.Extra != 44 {
		t.Errorf("Extra is %d", seal.Extra)
	}
	for _, base := range basesAtEdges() {
		for _, nonce := range noncesAtEdges() {
			if s := sealed(t, base, 3, nonce, ""); len(s) != 44 || s[:12] != nonce {
				t.Errorf("%x", s)
			}
		}
	}
}

// TestKnownSeals were reckoned by other programs: HMAC by Python's, AES in counter mode by OpenSSL's.
func TestKnownSeals(t *testing.T) {
	for _, c := range []struct {
		base        string
		use         int
		nonce, body string
		want        string
	}{
		{"key", 3, "0123456789ab", "",
			"303132333435363738396162 0414746b6d4f7cfb5c2c7e35a4e085d2fb1587db903632de8e943d968a3b1256"},
		{"key", 3, "0123456789ab", "hello",
			"303132333435363738396162 bcd9a0033d 1d42e26707145160378ef3dc945271a088523cbd9bab5917db377b73c9247359"},
		{"", -1, noughts(12), "what is ciphered, and then summed",
			"000000000000000000000000 26da25e48c5f62729506c2e356fdb940e4a7dc8b15d2b1ebd2e348870b82a4af15 55c738976c446084e7a0250f88c27e6a546e44f2d88fa828674bb27572c9432c"},
		{strings.Repeat("\x00\xff", 50), 2, strings.Repeat("\xff", 12), noughts(16),
			"ffffffffffffffffffffffff 4734011e0b42326c2e0956af62a96b2d 61b5eb2f51db9d7688b06dcb5fac6d65194d3023cc7d86b33e6884884907c6bb"},
	} {
		if got := sealed(t, c.base, c.use, c.nonce, c.body); got != raw(t, c.want) {
			t.Errorf("%q, %d, %q: %x", c.base, c.use, c.body, got)
		}
		if got, e := seal.Open(c.base, c.use, raw(t, c.want)); got != c.body || e != api.OK {
			t.Errorf("%s: %q %v", c.want, got, e)
		}
	}
}

func TestEachBaseAndUse(t *testing.T) {
	for _, base := range basesAtEdges() {
		for _, use := range usesAtEdges() {
			for _, body := range []string{"", "hello", letters(33)} {
				hold(t, base, use, "0123456789ab", body)
			}
		}
	}
}

func TestEachBodyAndNonce(t *testing.T) {
	for _, body := range bodiesAtEdges() {
		for _, nonce := range noncesAtEdges() {
			for _, base := range []string{"", "key", letters(65)} {
				hold(t, base, 3, nonce, body)
			}
		}
	}
}

func TestLongBodies(t *testing.T) {
	for _, body := range longBodies() {
		hold(t, "key", 3, "0123456789ab", body)
		hold(t, letters(300), -1, noughts(12), body)
	}
}

func TestLongBases(t *testing.T) {
	for _, base := range []string{letters(1 << 20), noughts(1 << 20)} {
		hold(t, base, 3, "0123456789ab", "hello")
	}
}

func TestSealsByChance(t *testing.T) {
	r := rand.New(rand.NewSource(1))
	for range 1500 {
		hold(t, byChance(r, r.Intn(140)), int(r.Uint64()), byChance(r, 12), byChance(r, r.Intn(400)))
	}
}

// refused holds that nothing is sealed, for what can't be asked.
func refused(t *testing.T, base string, use int, nonce, body string) {
	t.Helper()
	if s, e := seal.Seal(base, use, nonce, body); s != "" || e != api.ErrArg {
		t.Errorf("a nonce of %d bytes, a body of %d: %d bytes, %v", len(nonce), len(body), len(s), e)
	}
}

func TestOtherNonces(t *testing.T) {
	lengths := []int{255, 256, 268, 300, 524, 777, 65536, 65548, 1 << 20}
	for n := range 60 {
		lengths = append(lengths, n)
	}
	for _, n := range lengths {
		if n == 12 {
			continue
		}
		for _, nonce := range []string{letters(n), noughts(n), strings.Repeat("\xff", n)} {
			for _, body := range []string{"", "a", "hello", letters(16), letters(300)} {
				refused(t, "key", 3, nonce, body)
			}
		}
	}
	for _, base := range basesAtEdges() {
		for _, use := range usesAtEdges() {
			refused(t, base, use, "", "hello")
			refused(t, base, use, letters(11), "hello")
			refused(t, base, use, letters(13), "hello")
		}
	}
}

func TestBodiesThatAreTooLong(t *testing.T) {
	for _, n := range []int{longest + 1, longest + 2, longest + 12, longest + 16, longest + 44, 2 * longest, 1 << 20, 1<<20 + 1, 1 << 24} {
		for _, body := range []string{letters(n), noughts(n)} {
			refused(t, "key", 3, "0123456789ab", body)
			refused(t, "", -1, "0123456789ab", body)
			refused(t, "key", 3, letters(11), body)
			refused(t, "key", 3, "", body)
		}
	}
	for _, n := range []int{0, 11, 13} {
		refused(t, "key", 3, letters(n), letters(longest))
	}
}

// TestUnlikeSeals: another base, use, nonce or body gives another text.
func TestUnlikeSeals(t *testing.T) {
	seen := map[string]bool{}
	for _, base := range basesAtEdges() {
		for _, use := range usesAtEdges() {
			for _, nonce := range noncesAtEdges() {
				for _, body := range []string{"", "hello", "hellp"} {
					s := sealed(t, base, use, nonce, body)
					if seen[s] {
						t.Errorf("%x, %d, %x, %q: as another one", base, use, nonce, body)
					}
					seen[s] = true
				}
			}
		}
	}
}

// TestOfItsArgumentsAlone: what is asked at the same time, or behind something else, is answered the same.
func TestOfItsArgumentsAlone(t *testing.T) {
	ask := func() string {
		var b strings.Builder
		for _, use := range []int{0, 1, -1, math.MaxInt} {
			for _, base := range []string{"", "key", letters(65)} {
				s, _ := seal.Seal(base, use, "0123456789ab", letters(300))
				seal.Seal(base, use, "short", "hello")
				body, _ := seal.Open(base, use, s)
				seal.Open(base, use, s[1:])
				b.WriteString(s + body + seal.Sum(base, use, body) + seal.Check(base, use, body, s).Error())
			}
		}
		return b.String()
	}
	want := ask()
	var group sync.WaitGroup
	got := make([]string, 8)
	for i := range got {
		group.Go(func() { got[i] = ask() })
	}
	group.Wait()
	for i := range got {
		if got[i] != want {
			t.Errorf("%d: another answer", i)
		}
	}
}

func BenchmarkSeal(b *testing.B) {
	body := letters(longest)
	b.SetBytes(longest)
	for b.Loop() {
		seal.Seal("key", 3, "0123456789ab", body)
	}
}
