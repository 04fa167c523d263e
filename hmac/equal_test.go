package hmac_test

import (
	"math/rand"
	"strings"
	"testing"
	"time"

	"legate/hmac"
)

func TestEqualAtItsEdges(t *testing.T) {
	for _, c := range []struct {
		a, b string
		want bool
	}{
		{"", "", true},
		{"", "\x00", false},
		{"", "a", false},
		{"a", "a", true},
		{"a", "b", false},
		{"a", "A", false},
		{"\x00", "\x00", true},
		{"\x00", "\x80", false},
		{"\x00", "\x01", false},
		{"\xff", "\x00", false},
		{"ab", "ab", true},
		{"ab", "ba", false},
		{"ab", "a", false},
		{"ab", "b", false},
		{"ab", "ab\x00", false},
		{"ab", "abab", false},
		{"\xff\xfe", "\xff\xfd", false},
		{"\x01\x01", "\x00\x00", false},
		{"\x80\x80", "\x00\x00", false},
	} {
		if hmac.Equal(c.a, c.b) != c.want || hmac.Equal(c.b, c.a) != c.want {
			t.Errorf("%q and %q", c.a, c.b)
		}
	}
}

func TestEqualToItself(t *testing.T) {
	r := rand.New(rand.NewSource(9))
	for n := range 300 {
		s := byChance(r, n)
		if other := strings.Clone(s); !hmac.Equal(s, s) || !hmac.Equal(s, other) || !hmac.Equal(other, s) {
			t.Errorf("%d bytes: %x", n, s)
		}
	}
}

// TestOneByteParts: at any place, by any bit, and by any byte.
func TestOneByteParts(t *testing.T) {
	r := rand.New(rand.NewSource(10))
	for _, n := range []int{1, 2, 3, 31, 32, 33, 64, 65, 200} {
		s := byChance(r, n)
		for i := range n {
			for change := 1; change < 256; change++ {
				b := []byte(s)
				b[i] ^= byte(change)
				if hmac.Equal(s, string(b)) || hmac.Equal(string(b), s) {
					t.Fatalf("%d bytes, of which the one at %d is changed by %x", n, i, change)
				}
			}
		}
	}
}

// TestTwoBytesPart: what the one is changed by, the other doesn't take back.
func TestTwoBytesPart(t *testing.T) {
	s := strings.Repeat("a", 40)
	for i := range len(s) {
		for j := range i {
			for _, change := range []byte{1, 0x80, 0xff} {
				b := []byte(s)
				b[i] ^= change
				b[j] ^= change
				if hmac.Equal(s, string(b)) {
					t.Fatalf("those at %d and at %d are changed by %x", i, j, change)
				}
			}
		}
	}
	// 256 times the same change: a number of one byte that was added up would be nought again.
	if hmac.Equal(strings.Repeat("a", 256), strings.Repeat("b", 256)) || hmac.Equal(noughts(2), "\x80\x80") {
		t.Error("changes take each other back")
	}
}

func TestEqualAtUnlikeLengths(t *testing.T) {
	s := strings.Repeat("a", 130)
	for n := range len(s) + 1 {
		for m := range len(s) + 1 {
			if hmac.Equal(s[:n], s[:m]) != (n == m) || hmac.Equal(noughts(n), noughts(m)) != (n == m) {
				t.Fatalf("%d bytes and %d", n, m)
			}
		}
	}
	if long := strings.Repeat("a", 1<<20); hmac.Equal(long, long+"a") || hmac.Equal(long, "") {
		t.Error("a long text is the same as another one")
	}
}

func TestEqualIsAsGosOwn(t *testing.T) {
	r := rand.New(rand.NewSource(11))
	few := func() string {
		b := make([]byte, r.Intn(5))
		for i := range b {
			b[i] = byte(r.Intn(2))
		}
		return string(b)
	}
	for range 20000 {
		if a, b := few(), few(); hmac.Equal(a, b) != (a == b) {
			t.Fatalf("%q and %q", a, b)
		}
	}
}

// quickest is the least time that some tries took.
func quickest(a, b string) time.Duration {
	var least time.Duration
	for i := range 7 {
		from := time.Now()
		hmac.Equal(a, b)
		if d := time.Since(from); i == 0 || d < least {
			least = d
		}
	}
	return least
}

// TestAllBytesAreLookedAt: texts that part at once take about as long as texts that part nowhere. One that ended where they part would be done in less than a thousandth.
func TestAllBytesAreLookedAt(t *testing.T) {
	const long = 1 << 23
	s := strings.Repeat("a", long)
	whole := quickest(s, strings.Clone(s))
	for _, other := range []string{"b" + s[1:], strings.Repeat("b", long)} {
		if got := quickest(s, other); got < whole/20 {
			t.Errorf("texts that part at once take %v, and those that are the same %v", got, whole)
		}
	}
}
