package derive_test

import (
	"math/rand"
	"strings"
	"testing"

	"legate/derive"
)

// alone holds that no two of what it is handed are the same.
func alone(t *testing.T) func(key, what string) {
	seen := map[string]string{}
	return func(key, what string) {
		t.Helper()
		if other, ok := seen[key]; ok && other != what {
			t.Errorf("%q is the same as %q", what, other)
		}
		seen[key] = what
	}
}

// TestUsesAndLabelsThatAreUnlike: a text tells where a label ends and which number it has.
func TestUsesAndLabelsThatAreUnlike(t *testing.T) {
	hold := alone(t)
	labels := []string{"", "a", "b", "ab", "ba", "aa", "A", "cipher", "sum", "long", "session", "cipher ", "ciphe", "\xff", "\xff\xff", "\x01",
		"\xff\xff\xff\xff\xff\xff\xff\xff", "\x01\x01\x01\x01\x01\x01\x01\x01\x01", letters(55), letters(56), letters(64), letters(65), letters(300)}
	for _, label := range labels {
		for _, n := range numbersAtEdges() {
			hold(derive.Key("base", n, label), label+"\x00"+slowNumber(n))
		}
	}
}

// TestShortLabelsThatAreUnlike goes through all labels of few bytes, with uses that are written with the same bytes.
func TestShortLabelsThatAreUnlike(t *testing.T) {
	hold := alone(t)
	var labels func(ahead string, left int)
	labels = func(ahead string, left int) {
		for _, n := range []int{0, 1, -1, 0x0101010101010101, 0x01ff01ff01ff01ff, 1 << 56} {
			hold(derive.Key("base", n, ahead), ahead+"\x00"+slowNumber(n))
		}
		if left == 0 {
			return
		}
		for _, b := range []string{"\x01", "\xff", "l"} {
			labels(ahead+b, left-1)
		}
	}
	labels("", 6)
}

func TestUsesOfTheProgram(t *testing.T) {
	hold := alone(t)
	for use := range 300 {
		n := strings.Repeat("i", use)
		c := derive.Cipher("base", use)
		if strings.HasPrefix(derive.Sum("base", use), c) {
			t.Errorf("use %d: what ciphers is what sums begins with", use)
		}
		hold(c, "cipher "+n)
		hold(derive.Sum("base", use), "sum "+n)
		hold(derive.Long("", use, "base"), "long "+n)
		hold(derive.Long("ann", use, "base"), "long ann "+n)
		hold(derive.Long("bob", use, "base"), "long bob "+n)
		hold(derive.Session(use, "base"), "session "+n)
	}
}

// TestNamesVersionsAndSecretsThatAreUnlike: a version always has 8 bytes, so that a name can't go on where it ends.
func TestNamesVersionsAndSecretsThatAreUnlike(t *testing.T) {
	hold := alone(t)
	names := []string{"", "a", "ann", "bob", "nna", "\x00", "\x00\x00", "\x01", "\x02ann", "\x00\x00\x00\x00\x00\x00\x00\x02", "ann\x00", letters(40), letters(65)}
	for _, secret := range []string{"", "s", "t", "ss", letters(64), letters(65)} {
		for _, n := range numbersAtEdges() {
			for _, name := range names {
				hold(derive.Long(name, n, secret), "long "+slowNumber(n)+name+" by "+secret)
			}
			hold(derive.Session(n, secret), "session "+slowNumber(n)+" by "+secret)
		}
	}
}

// TestBasesThatAreUnlike: each bit of a base counts.
func TestBasesThatAreUnlike(t *testing.T) {
	r := rand.New(rand.NewSource(4))
	for _, n := range []int{1, 32, 64, 65, 200} {
		hold := alone(t)
		b := []byte(byChance(r, n))
		hold(derive.Key(string(b), 1, "l"), "as it is")
		for i := range 8 * n {
			b[i/8] ^= 1 << (i % 8)
			hold(derive.Key(string(b), 1, "l"), string(b))
			hold(derive.Long("ann", 1, string(b)), "long "+string(b))
			hold(derive.Session(1, string(b)), "session "+string(b))
			b[i/8] ^= 1 << (i % 8)
		}
	}
}
