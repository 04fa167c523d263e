package derive_test

import (
	"math"
	"math/rand"
	"testing"

	"legate/derive"
)

func TestKnownLongs(t *testing.T) {
	for _, c := range []struct {
		name, secret string
		version      int
		text         string
	}{
		{"ann", "s", 2, "6c6f6e67 00 0000000000000002 616e6e"},
		{"ann", "s", 0, "6c6f6e67 00 0000000000000000 616e6e"},
		{"", "s", 2, "6c6f6e67 00 0000000000000002"},
		{"", "", 0, "6c6f6e67 00 0000000000000000"},
		{"ann", "", 258, "6c6f6e67 00 0000000000000102 616e6e"},
		{"ann", "s", -1, "6c6f6e67 00 ffffffffffffffff 616e6e"},
		{"ann", "s", math.MaxInt, "6c6f6e67 00 7fffffffffffffff 616e6e"},
		{"ann", "s", math.MinInt, "6c6f6e67 00 8000000000000000 616e6e"},
		{"ann", "s", 1 << 40, "6c6f6e67 00 0000010000000000 616e6e"},
		{"\x00", "s", 2, "6c6f6e67 00 0000000000000002 00"},
		{"\xff\x00a", "\x00\xff", 2, "6c6f6e67 00 0000000000000002 ff0061"},
	} {
		check(t, "Long", derive.Long(c.name, c.version, c.secret), c.secret, raw(t, c.text))
	}
}

func TestKnownSessions(t *testing.T) {
	for _, c := range []struct {
		serial int
		secret string
		text   string
	}{
		{3, "s", "73657373696f6e 00 0000000000000003"},
		{0, "s", "73657373696f6e 00 0000000000000000"},
		{0, "", "73657373696f6e 00 0000000000000000"},
		{255, "s", "73657373696f6e 00 00000000000000ff"},
		{256, "s", "73657373696f6e 00 0000000000000100"},
		{65536, "s", "73657373696f6e 00 0000000000010000"},
		{1 << 40, "s", "73657373696f6e 00 0000010000000000"},
		{-1, "s", "73657373696f6e 00 ffffffffffffffff"},
		{math.MaxInt, "\x00", "73657373696f6e 00 7fffffffffffffff"},
		{math.MinInt, "\xff", "73657373696f6e 00 8000000000000000"},
	} {
		check(t, "Session", derive.Session(c.serial, c.secret), c.secret, raw(t, c.text))
	}
}

func TestLongAndSessionAtEachNumber(t *testing.T) {
	for _, n := range numbersAtEdges() {
		for _, s := range []string{"", "s", "\x00", letters(65)} {
			check(t, "Long", derive.Long("ann", n, s), s, "long\x00"+slowNumber(n)+"ann")
			check(t, "Long", derive.Long("", n, s), s, "long\x00"+slowNumber(n))
			check(t, "Session", derive.Session(n, s), s, "session\x00"+slowNumber(n))
		}
	}
}

func TestLongAndSessionAtEachText(t *testing.T) {
	for _, secret := range textsAtEdges() {
		for _, name := range textsAtEdges() {
			check(t, "Long", derive.Long(name, 258, secret), secret, "long\x00"+slowNumber(258)+name)
		}
		check(t, "Session", derive.Session(258, secret), secret, "session\x00"+slowNumber(258))
	}
}

func TestLongAndSessionByChance(t *testing.T) {
	r := rand.New(rand.NewSource(3))
	for range 3000 {
		name, secret, n := byChance(r, r.Intn(140)), byChance(r, r.Intn(140)), int(r.Uint64())
		check(t, "Long", derive.Long(name, n, secret), secret, "long\x00"+slowNumber(n)+name)
		check(t, "Session", derive.Session(n, secret), secret, "session\x00"+slowNumber(n))
	}
}

// TestLongWithNoName: its text is that of Key with the label `long`, and no other one; Session's is that with `session`.
func TestLongWithNoName(t *testing.T) {
	labels := []string{"", "long", "session", "cipher", "sum", "Long", "lon", "longs", "long\x00", "\x00long", "sessions", "l"}
	for _, n := range numbersAtEdges() {
		for _, s := range []string{"", "s", letters(64), letters(65)} {
			if derive.Long("", n, s) == derive.Session(n, s) {
				t.Errorf("%d, %q: Long with no name is Session", n, s)
			}
			for _, label := range labels {
				k := derive.Key(s, n, label)
				if (derive.Long("", n, s) == k) != (label == "long") || (derive.Session(n, s) == k) != (label == "session") {
					t.Errorf("%d, %q: against the label %q", n, s, label)
				}
				if derive.Long("ann", n, s) == k {
					t.Errorf("%d, %q: Long of ann is of the label %q", n, s, label)
				}
			}
		}
	}
}

// TestLongAsAKey: the chapter gives Long of a name that ends with a byte 00 and a number the text of a label with bytes 00, and so it is.
func TestLongAsAKey(t *testing.T) {
	for _, n := range numbersAtEdges() {
		for _, use := range []int{0, 7, -1} {
			name, label := "ann\x00"+slowNumber(use), "long\x00"+slowNumber(n)+"ann"
			if derive.Long(name, n, "s") != derive.Key("s", use, label) {
				t.Errorf("%d and %d", n, use)
			}
			if derive.Long(name, n, "s") == derive.Key("s", use+1, label) || derive.Long(name, n+1, "s") == derive.Key("s", use, label) {
				t.Errorf("%d and %d: another number gives the same", n, use)
			}
		}
	}
}
