package term_test

import (
	"strings"
	"testing"

	"legate/term"
)

// ofNames are all bytes of names, written out.
const ofNames = "abcdefghijklmnopqrstuvwxyz0123456789-./"

func TestNameByItsLength(t *testing.T) {
	for n := range 100 {
		for _, c := range []string{"a", "z", "0", "9", "-", ".", "/"} {
			if got, want := term.Name(strings.Repeat(c, n)), n >= 1 && n <= 40; got != want {
				t.Errorf("%d times %s: %v", n, c, got)
			}
		}
	}
	for _, n := range []int{255, 256, 257, 296, 65536, 65537, 65576, 1 << 20} {
		if term.Name(strings.Repeat("a", n)) {
			t.Errorf("%d bytes are a name", n)
		}
	}
}

// TestNameByItsBytes lays each byte everywhere: alone, and ahead of, amid and behind others.
func TestNameByItsBytes(t *testing.T) {
	for c := range 256 {
		b := string([]byte{byte(c)})
		want := strings.Contains(ofNames, b)
		for _, s := range []string{b, b + "ann", "an" + b + "n", "ann" + b, b + b, strings.Repeat("a", 39) + b, b + strings.Repeat("a", 39), strings.Repeat("a", 20) + b + strings.Repeat("a", 19)} {
			if got := term.Name(s); got != want {
				t.Errorf("%q: %v", s, got)
			}
		}
		if term.Name(strings.Repeat("a", 40) + b) {
			t.Errorf("41 bytes, the last one %q, are a name", b)
		}
	}
}

func TestNamesThatLookLikeOthers(t *testing.T) {
	for _, s := range []string{"0", "7", "12", "007", "1234567890123456789012345678901234567890", "-3", "-", "--", ".", "/", "-0", "a/b.c-d", "host/web.example", "centre", "key", "seal", "sum"} {
		if !term.Name(s) {
			t.Errorf("%q is no name", s)
		}
	}
	for _, s := range []string{"", " ", "a b", "A", "Ann", "é", "a\x00", "\x00", "a_b", "key(a 1)", "[a]", "?", "a,b", "a:b", "a`", "a{"} {
		if term.Name(s) {
			t.Errorf("%q is a name", s)
		}
	}
}
