package hmac_test

import (
	"crypto/sha256"
	"math/rand"
	"strings"
	"testing"

	"legate/hmac"
)

func noughts(n int) string { return strings.Repeat("\x00", n) }

// byChance is a text of so many bytes.
func byChance(r *rand.Rand, n int) string {
	b := make([]byte, n)
	for i := range b {
		b[i] = byte(r.Intn(256))
	}
	return string(b)
}

// sum is the library's SHA-256, that is not written here.
func sum(s string) string {
	b := sha256.Sum256([]byte(s))
	return string(b[:])
}

// keys are keys of so many bytes: of noughts, of full bytes, of letters, by chance, and such as begin or end with a nought.
func keys(r *rand.Rand, n int) []string {
	l := []string{noughts(n), strings.Repeat("\xff", n), strings.Repeat("k", n), byChance(r, n)}
	if n > 0 {
		l = append(l, "\x00"+byChance(r, n-1), byChance(r, n-1)+"\x00")
	}
	return l
}

func TestKeyAtItsEdges(t *testing.T) {
	for _, c := range []struct{ name, key, want string }{
		{"of no bytes", "", noughts(64)},
		{"of one byte", "k", "k" + noughts(63)},
		{"of one nought", "\x00", noughts(64)},
		{"of some bytes", "Jefe", "Jefe" + noughts(60)},
		{"of bytes that are no letters", "\xff\x80\xc3\x28\x00\x7f", "\xff\x80\xc3\x28\x00\x7f" + noughts(58)},
		{"as long as a sum", strings.Repeat("k", 32), strings.Repeat("k", 32) + noughts(32)},
		{"of 63 bytes", strings.Repeat("k", 63), strings.Repeat("k", 63) + "\x00"},
		{"of 64 bytes", strings.Repeat("k", 64), strings.Repeat("k", 64)},
		{"of 65 bytes", strings.Repeat("k", 65), sum(strings.Repeat("k", 65)) + noughts(32)},
		{"of 65 noughts", noughts(65), sum(noughts(65)) + noughts(32)},
		{"of two blocks", strings.Repeat("k", 128), sum(strings.Repeat("k", 128)) + noughts(32)},
		{"of very many bytes", strings.Repeat("k", 1<<20), sum(strings.Repeat("k", 1<<20)) + noughts(32)},
	} {
		if got := hmac.Key(c.key); got != c.want {
			t.Errorf("%s: %x", c.name, got)
		}
	}
}

func TestKeyAtAllLengths(t *testing.T) {
	r := rand.New(rand.NewSource(1))
	for n := range 300 {
		for _, k := range keys(r, n) {
			want := k
			if n > 64 {
				want = sum(k)
			}
			want += noughts(64 - len(want))
			if got := hmac.Key(k); got != want {
				t.Errorf("%d bytes: Key(%x) %x", n, k, got)
			}
		}
	}
}

// TestNoughtsBehindAKey: up to 64 bytes they tell nothing.
func TestNoughtsBehindAKey(t *testing.T) {
	r := rand.New(rand.NewSource(2))
	for n := range 65 {
		for _, k := range keys(r, n) {
			text := byChance(r, r.Intn(200))
			block, mac := hmac.Key(k), hmac.Mac(k, text)
			for more := range 64 - n + 1 {
				longer := k + noughts(more)
				if got := hmac.Key(longer); got != block {
					t.Fatalf("%x and %d noughts: %x", k, more, got)
				}
				if got := hmac.Mac(longer, text); got != mac {
					t.Fatalf("%x and %d noughts, %x: %x", k, more, text, got)
				}
			}
		}
	}
}

// TestNoughtsThatTell: beyond 64 bytes, or ahead of a key, they make another one of it.
func TestNoughtsThatTell(t *testing.T) {
	for _, k := range []string{"", "k", "Jefe", strings.Repeat("k", 63), strings.Repeat("k", 64), strings.Repeat("k", 65)} {
		block, mac := hmac.Key(k), hmac.Mac(k, "text")
		for n := 65 - min(len(k), 64); n < 140; n++ {
			longer := k + noughts(n)
			if hmac.Key(longer) == block || hmac.Mac(longer, "text") == mac {
				t.Errorf("%d bytes, and %d noughts behind them", len(k), n)
			}
			if longer = noughts(n) + k; hmac.Key(longer) == block || hmac.Mac(longer, "text") == mac {
				t.Errorf("%d bytes, and %d noughts ahead of them", len(k), n)
			}
		}
	}
	if hmac.Key("\x00k") == hmac.Key("k") || hmac.Mac("\x00k", "text") == hmac.Mac("k", "text") {
		t.Error("a nought ahead of a key is not to be seen")
	}
}

func TestALongKeyIsItsSum(t *testing.T) {
	r := rand.New(rand.NewSource(3))
	for n := 65; n < 300; n++ {
		k, text := byChance(r, n), byChance(r, r.Intn(200))
		if hmac.Key(k) != hmac.Key(sum(k)) || hmac.Mac(k, text) != hmac.Mac(sum(k), text) {
			t.Errorf("%d bytes: %x", n, k)
		}
	}
	for n := range 65 {
		k := strings.Repeat("k", n)
		if hmac.Key(k) == hmac.Key(sum(k)) || hmac.Mac(k, "text") == hmac.Mac(sum(k), "text") {
			t.Errorf("%d bytes are taken by their sum", n)
		}
	}
}

// TestAKeyAsABlockIsItself: what Key answers is taken as it is.
func TestAKeyAsABlockIsItself(t *testing.T) {
	r := rand.New(rand.NewSource(4))
	for n := range 200 {
		k, text := byChance(r, n), byChance(r, r.Intn(200))
		block := hmac.Key(k)
		if hmac.Key(block) != block || hmac.Mac(block, text) != hmac.Mac(k, text) {
			t.Errorf("%d bytes: %x", n, k)
		}
	}
}
