package ctr_test

import (
	"math/rand"
	"strings"
	"testing"

	"legate/ctr"
)

// checkCipher holds a text, ciphered, against the library's counter mode and against the stream, and ciphers it back.
func checkCipher(t *testing.T, key, nonce, s string) {
	t.Helper()
	got := ctr.Cipher(key, nonce, s)
	if got != library(t, key, nonce, s) {
		t.Fatalf("key %x, nonce %x, %d bytes: not the library's", key, nonce, len(s))
	}
	stream := ctr.Stream(key, nonce, len(s))
	for i := range len(s) {
		if got[i]^s[i] != stream[i] {
			t.Fatalf("key %x, nonce %x, %d bytes: byte %d is %x of %x", key, nonce, len(s), i, got[i], s[i])
		}
	}
	if ctr.Cipher(key, nonce, got) != s {
		t.Fatalf("key %x, nonce %x, %d bytes: ciphered twice, it is not as it was", key, nonce, len(s))
	}
}

func TestExample(t *testing.T) {
	for _, n := range []int{4, 5, 16, 40, 5000} {
		got := ctr.Cipher(noughts(16), noughts(12), noughts(n))
		if len(got) != n || !strings.HasPrefix(got, "\x66\xe9\x4b\xd4") {
			t.Errorf("%d bytes: %x", n, got)
		}
	}
}

func TestKnownTexts(t *testing.T) {
	for _, c := range []struct{ name, key, nonce, s, want string }{
		{"one block", "ae6852f8121067cc4bf7a5765577f39e", "000000300000000000000000",
			"53696e676c6520626c6f636b206d7367", "e4095d4fb7a7b3792d6175a3261311b8"},
		{"two blocks", "7e24067817fae0d743d6ce1f32539163", "006cb6dbc0543b59da48d90b",
			"000102030405060708090a0b0c0d0e0f 101112131415161718191a1b1c1d1e1f",
			"5104a106168a72d9790d41ee8edad388 eb2e1efc46da57c8fce630df9141be28"},
		{"a piece of a third", "7691be035e5020a8ac6e618529f9a0dc", "00e0017b27777f3f4a1786f0",
			"000102030405060708090a0b0c0d0e0f 101112131415161718191a1b1c1d1e1f 20212223",
			"c1cf48a89f2ffdd9cf4652e9efdb72d7 4540a42bde6d7836d59a5ceaaef31053 25b2072f"},
	} {
		// These count from 1 on: a block of noughts stands ahead of them.
		got := ctr.Cipher(raw(t, c.key), raw(t, c.nonce), noughts(16)+raw(t, c.s))
		if got[min(16, len(got)):] != raw(t, c.want) {
			t.Errorf("%s: %x", c.name, got)
		}
	}
}

func TestTextsOfAllLengths(t *testing.T) {
	r := rand.New(rand.NewSource(4))
	for _, n := range lengths() {
		for _, s := range []string{byChance(r, n), noughts(n), strings.Repeat("\xff", n), letters(n)} {
			checkCipher(t, byChance(r, 16), byChance(r, 12), s)
		}
	}
}

func TestTextsByChance(t *testing.T) {
	r := rand.New(rand.NewSource(5))
	for range 1500 {
		checkCipher(t, byChance(r, 16), byChance(r, 12), byChance(r, r.Intn(600)))
	}
}

// TestKeysAndNoncesOfOneBit: each bit of a key and of a nonce counts.
func TestKeysAndNoncesOfOneBit(t *testing.T) {
	seen := map[string]bool{}
	check := func(key, nonce string) {
		checkCipher(t, key, nonce, "what is ciphered, and back")
		c := ctr.Cipher(key, nonce, "what is ciphered")
		if seen[c] {
			t.Errorf("key %x, nonce %x: as another one's", key, nonce)
		}
		seen[c] = true
	}
	check(noughts(16), noughts(12))
	for i := range 128 {
		var one [16]byte
		one[i/8] = 0x80 >> (i % 8)
		check(string(one[:]), noughts(12))
		if i < 96 {
			check(noughts(16), string(one[:12]))
		}
	}
}

func TestTheLongestText(t *testing.T) {
	r := rand.New(rand.NewSource(6))
	k, nonce := byChance(r, 16), byChance(r, 12)
	checkCipher(t, k, nonce, byChance(r, longest))
	for _, n := range []int{longest + 1, longest + 2, longest + 16, 2 * longest, 1 << 24} {
		if got := ctr.Cipher(k, nonce, letters(n)); got != "" {
			t.Errorf("a text of %d bytes: %d bytes", n, len(got))
		}
	}
}

func TestNoText(t *testing.T) {
	for _, k := range []string{"", "x", letters(16), letters(32)} {
		for _, nonce := range []string{"", "x", letters(12), letters(16)} {
			if got := ctr.Cipher(k, nonce, ""); got != "" {
				t.Errorf("a key of %d bytes, a nonce of %d: %x", len(k), len(nonce), got)
			}
		}
	}
}

func TestTextsByOtherKeysAndNonces(t *testing.T) {
	for k := range 40 {
		for nonce := range 40 {
			for _, s := range []string{"a", letters(33)} {
				want := 0
				if k == 16 && nonce == 12 {
					want = len(s)
				}
				if got := ctr.Cipher(letters(k), letters(nonce), s); len(got) != want {
					t.Errorf("a key of %d bytes, a nonce of %d, a text of %d: %x", k, nonce, len(s), got)
				}
			}
		}
	}
	for _, n := range []int{0, 11, 13, 15, 17, 24, 28, 32, 268, 272, 65548, 65552, longest + 12, longest + 16} {
		for _, s := range []string{"a", letters(100), letters(longest), letters(longest + 1)} {
			if ctr.Cipher(letters(n), letters(12), s) != "" || ctr.Cipher(letters(16), letters(n), s) != "" || ctr.Cipher(letters(n), letters(n), s) != "" {
				t.Errorf("a key or a nonce of %d bytes, a text of %d", n, len(s))
			}
		}
	}
}

// TestTwiceByAnotherOne: a text comes back by its own key and nonce alone.
func TestTwiceByAnotherOne(t *testing.T) {
	k, nonce, s := "0123456789abcdef", "hello, world", "what is ciphered twice is as it was"
	c := ctr.Cipher(k, nonce, s)
	if ctr.Cipher(k, nonce, c) != s || ctr.Cipher(k, "hello, World", c) == s || ctr.Cipher("0123456789abcdeF", nonce, c) == s {
		t.Errorf("%x", c)
	}
}
