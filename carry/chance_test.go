package carry_test

import (
	"math/rand"
	"testing"

	"legate/api"
	"legate/carry"
	"legate/term"
)

// byChance makes a valid term, of at most that many levels, whose keys are ann, web and session.
func byChance(r *rand.Rand, deep int) api.Term {
	of := 3
	if deep > 0 {
		of = 6
	}
	switch api.TermKind(r.Intn(of)) {
	case api.TmName:
		return term.Of([]string{"a", "hi", "12", "-3", "host/web.example"}[r.Intn(5)])
	case api.TmNum:
		return term.Num(int(r.Uint64()) >> r.Intn(64))
	case api.TmKey:
		return keys[r.Intn(len(keys))]
	case api.TmSeal:
		return term.Seal(keys[r.Intn(len(keys))], 1+r.Intn(255), byChance(r, deep-1))
	case api.TmSum:
		return term.Sum(keys[r.Intn(len(keys))], 1+r.Intn(255), byChance(r, deep-1))
	}
	var l []api.Term
	for range r.Intn(4) {
		l = append(l, byChance(r, deep-1))
	}
	return term.List(l...)
}

func TestTermsByChance(t *testing.T) {
	r := rand.New(rand.NewSource(1))
	for range 5000 {
		x := byChance(r, 5)
		packs(t, x, "s")
		unpacks(t, "by chance", spelt(x, "s"), "s", keys, x)
	}
}

// holds holds, of any text, that it is told as an error, or as a valid term that is packed as that text. (A seal of another nonce would not be, but who has no key makes none.)
func holds(t *testing.T, s string) {
	t.Helper()
	x, e := unpacked(s)
	if e != api.OK {
		if !alike(x, api.Term{}) {
			t.Fatalf("%q: %s beside %v", s, term.Text(x), e)
		}
		return
	}
	if p, e := carry.Pack(x, "s"); p != s || e != api.OK || !term.Valid(x) {
		t.Fatalf("%q: %s, packed as %q %v", s, term.Text(x), p, e)
	}
}

func TestTextsWithOneByteChanged(t *testing.T) {
	r := rand.New(rand.NewSource(2))
	for range 4000 {
		s := []byte(mustPack(t, byChance(r, 4), "s"))
		holds(t, string(s[:r.Intn(len(s))]))
		s[r.Intn(len(s))] ^= 1 << r.Intn(8)
		holds(t, string(s))
		s[r.Intn(len(s))] = byte(r.Intn(256))
		holds(t, string(s))
	}
}

func TestTextsByChance(t *testing.T) {
	r := rand.New(rand.NewSource(3))
	for range 50000 {
		b := make([]byte, r.Intn(40))
		for i := range b {
			b[i] = byte(r.Intn(256)) >> r.Intn(8)
			if r.Intn(3) == 0 {
				b[i] |= 0x80
			}
		}
		holds(t, string(b))
	}
}

// TestAllShortTexts goes through all texts of up to 5 of the bytes at which something changes.
func TestAllShortTexts(t *testing.T) {
	of := "\x00\x01\x02\x03\x04\x05\x06\x07a\x81\x84\x86\xff"
	var each func(s string, n int)
	each = func(s string, n int) {
		holds(t, s)
		if n == 0 {
			return
		}
		for i := range len(of) {
			each(s+of[i:i+1], n-1)
		}
	}
	each("", 5)
}

// oddByChance makes a term of whatever fields.
func oddByChance(r *rand.Rand, deep int) api.Term {
	x := api.Term{K: api.TermKind(r.Intn(8) - 1), N: r.Intn(4) - 1}
	if r.Intn(2) == 0 {
		x.S = []string{"a", "A", "ann", "\x00"}[r.Intn(4)]
	}
	if deep > 0 {
		for range r.Intn(4) {
			x.L = append(x.L, oddByChance(r, deep-1))
		}
	}
	return x
}

func TestOddTermsByChance(t *testing.T) {
	r := rand.New(rand.NewSource(4))
	for range 20000 {
		x, k := oddByChance(r, 3), oddByChance(r, 1)
		s, e := carry.Pack(x, "s")
		if term.Valid(x) != (e == api.OK) || e != api.OK && (s != "" || e != api.ErrArg) {
			t.Fatalf("%s: %q %v", term.Text(x), s, e)
		}
		if len(carry.Bytes(x, "s")) != 32 {
			t.Fatal(term.Text(x))
		}
		carry.Unpack(mustPack(t, byChance(r, 3), "s"), "s", []api.Term{x, k, ann})
	}
}
