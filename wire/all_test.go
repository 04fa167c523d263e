package wire_test

import (
	"math/rand"
	"strings"
	"testing"

	"legate/api"
	"legate/wire"
)

// checkText holds, of any text, what P1 and P2 say.
func checkText(t *testing.T, s string) {
	t.Helper()
	x, n, e := wire.First(s)
	y, f := wire.Get(s)
	if e != api.OK {
		if n != 0 || !isZero(x) || !isZero(y) || f != e {
			t.Fatalf("%q: %d %v %v", s, n, e, f)
		}
		return
	}
	if w, e := wire.Put(x); n < 2 || n > len(s) || w != s[:n] || e != api.OK || !wire.Valid(x) {
		t.Fatalf("%q: read, and written as %q %v", s, w, e)
	}
	if n < len(s) && (f != api.ErrRest || !isZero(y)) {
		t.Fatalf("%q: %v, with more behind it", s, f)
	}
	if n == len(s) && (f != api.OK || !wire.Same(x, y)) {
		t.Fatalf("%q: %v", s, f)
	}
}

// TestAllShortTexts goes through all texts of up to 6 of the bytes at which something changes.
func TestAllShortTexts(t *testing.T) {
	of := "\x00\x01\x02\x03\x80\x81\x82\x84\xff"
	var each func(s string, n int)
	each = func(s string, n int) {
		checkText(t, s)
		if n == 0 {
			return
		}
		for i := range len(of) {
			each(s+of[i:i+1], n-1)
		}
	}
	each("", 6)
}

func TestTextsByChance(t *testing.T) {
	r := rand.New(rand.NewSource(1))
	for range 100000 {
		b := make([]byte, r.Intn(40))
		for i := range b {
			b[i] = byte(r.Intn(256)) >> r.Intn(8)
			if r.Intn(3) == 0 {
				b[i] |= 0x80
			}
		}
		checkText(t, string(b))
	}
}

func TestItemsByChance(t *testing.T) {
	r := rand.New(rand.NewSource(2))
	for range 20000 {
		x := byChance(r, 5)
		s, e := wire.Put(x)
		if e != api.OK || !wire.Valid(x) {
			t.Fatal(x, e)
		}
		if y, e := wire.Get(s); e != api.OK || !wire.Same(x, y) {
			t.Fatal(x, e)
		}
		b := []byte(s)
		b[r.Intn(len(b))] ^= 1 << r.Intn(8)
		checkText(t, string(b))
		checkText(t, s[:r.Intn(len(s))])
	}
}

func byChance(r *rand.Rand, deep int) api.Item {
	x := api.Item{Tag: 1 + r.Intn(127), Node: deep > 0 && r.Intn(2) == 0}
	if !x.Node {
		x.S = strings.Repeat("s", r.Intn(150))
		return x
	}
	for range r.Intn(4) {
		x.L = append(x.L, byChance(r, deep-1))
	}
	return x
}

func TestUnlikeItemsAreWrittenUnlike(t *testing.T) {
	r := rand.New(rand.NewSource(3))
	seen := map[string]api.Item{}
	for range 5000 {
		x := byChance(r, 2)
		s, _ := wire.Put(x)
		if y, ok := seen[s]; ok && !wire.Same(x, y) {
			t.Fatalf("%q", s)
		}
		seen[s] = x
	}
}
