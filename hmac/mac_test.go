package hmac_test

import (
	librarys "crypto/hmac"
	"crypto/sha256"
	"encoding/hex"
	"math/rand"
	"strings"
	"testing"

	"legate/hmac"
)

// libraryMac is the HMAC of the library, that is not written here.
func libraryMac(key, s string) string {
	h := librarys.New(sha256.New, []byte(key))
	h.Write([]byte(s))
	return string(h.Sum(nil))
}

// slowMac is the document's sentence of Mac, word for word.
func slowMac(key, s string) string {
	if len(key) > 64 {
		key = sum(key)
	}
	key += noughts(64 - len(key))
	var ahead, behind string
	for i := 0; i < 64; i++ {
		ahead += string([]byte{key[i] ^ 0x5c})
		behind += string([]byte{key[i] ^ 0x36})
	}
	return sum(ahead + sum(behind+s))
}

// count is the bytes 01, 02 and so on, up to n.
func count(n int) string {
	var b []byte
	for i := range n {
		b = append(b, byte(i+1))
	}
	return string(b)
}

func TestKnownMacs(t *testing.T) {
	for _, c := range []struct{ name, key, s, want string }{
		{"the document's example", "Jefe", "what do ya want for nothing?", "5bdcc146bf60754e6a042426089575c75a003f089d2739839dec58b964ec3843"},
		{"nothing", "", "", "b613679a0814d9ec772f95d778c35fc5ff1697c493715653c6c712144292c5ad"},
		{"20 bytes", strings.Repeat("\x0b", 20), "Hi There", "b0344c61d8db38535ca8afceaf0bf12b881dc200c9833da726e9376c2e32cff7"},
		{"50 bytes", strings.Repeat("\xaa", 20), strings.Repeat("\xdd", 50), "773ea91e36800e46854db8ebd09181a72959098b3ef8c122d9635514ced565fe"},
		{"a key of 25 bytes", count(25), strings.Repeat("\xcd", 50), "82558a389a443c0ea4cc819899f2083a85f0faa3e578f8077a2e3ff46729665b"},
		{"a key of 131 bytes", strings.Repeat("\xaa", 131), "Test Using Larger Than Block-Size Key - Hash Key First", "60e431591ee0b67f0d8a26aacbf5b77f8e0bc6213728c5140546040f0ee37f54"},
		{"a key and a text of more than a block", strings.Repeat("\xaa", 131), "This is a test using a larger than block-size key and a larger than block-size data. The key needs to be hashed before being used by the HMAC algorithm.", "9b09ffa71b942fcb27635fbcd5b0e944bfdc63644f0713938a7f51535c3a35e2"},
	} {
		if got := hex.EncodeToString([]byte(hmac.Mac(c.key, c.s))); got != c.want {
			t.Errorf("%s: %s", c.name, got)
		}
	}
}

// checkMac holds an answer against the document's sentence and against the library's.
func checkMac(t *testing.T, key, s string) {
	t.Helper()
	got := hmac.Mac(key, s)
	if got != slowMac(key, s) || got != libraryMac(key, s) {
		t.Errorf("a key of %d bytes, a text of %d: %x", len(key), len(s), got)
	}
}

// TestMacAtEachLengthOfAKey goes through keys of each length around a block, with texts of no bytes, of some, and of several blocks.
func TestMacAtEachLengthOfAKey(t *testing.T) {
	r := rand.New(rand.NewSource(5))
	for n := range 200 {
		for _, k := range keys(r, n) {
			for _, long := range []int{0, 1, 28, 55, 56, 64, 65, 300} {
				checkMac(t, k, byChance(r, long))
			}
		}
	}
}

func TestMacAtEachLengthOfAText(t *testing.T) {
	r := rand.New(rand.NewSource(6))
	for long := range 300 {
		for _, n := range []int{0, 1, 4, 32, 63, 64, 65, 128, 131} {
			checkMac(t, byChance(r, n), byChance(r, long))
		}
	}
}

func TestMacOfLongKeysAndTexts(t *testing.T) {
	r := rand.New(rand.NewSource(7))
	for _, c := range []struct{ key, text int }{
		{0, 65535}, {64, 65536}, {65, 65537}, {65536, 0}, {65536, 65536}, {1 << 20, 1 << 20},
	} {
		checkMac(t, byChance(r, c.key), byChance(r, c.text))
	}
}

// TestEachBitTells: of each bit of a key and of a text another HMAC comes.
func TestEachBitTells(t *testing.T) {
	all := strings.Repeat("k", 64) + strings.Repeat("t", 100)
	seen := map[string]int{hmac.Mac(all[:64], all[64:]): -1}
	for i := range 8 * len(all) {
		b := []byte(all)
		b[i/8] ^= 1 << (i % 8)
		got := hmac.Mac(string(b[:64]), string(b[64:]))
		if j, ok := seen[got]; ok || len(got) != 32 {
			t.Errorf("bits %d and %d: %x", i, j, got)
		}
		seen[got] = i
	}
}

// TestAKeyAndATextAreToldApart: where the one ends and the other begins is to be seen.
func TestAKeyAndATextAreToldApart(t *testing.T) {
	all := strings.Repeat("a", 140)
	seen := map[string]int{}
	for at := range len(all) + 1 {
		got := hmac.Mac(all[:at], all[at:])
		if j, ok := seen[got]; ok {
			t.Errorf("cut at %d and at %d: %x", j, at, got)
		}
		seen[got] = at
	}
	if hmac.Mac("key", "text") == hmac.Mac("text", "key") {
		t.Error("a key is taken for a text")
	}
}

// TestAMacHangsOnItsArgumentsAlone: neither an earlier call nor one at the same time is to be seen in an answer.
func TestAMacHangsOnItsArgumentsAlone(t *testing.T) {
	r := rand.New(rand.NewSource(8))
	k, s := byChance(r, 40), byChance(r, 1000)
	done := make(chan string)
	for range 8 {
		go func() {
			hmac.Mac("another key", "another one")
			hmac.Key(s)
			done <- hmac.Mac(k, s)
		}()
	}
	for range 8 {
		if got := <-done; got != libraryMac(k, s) {
			t.Errorf("%x", got)
		}
	}
}
