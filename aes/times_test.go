package aes_test

import (
	"testing"

	"legate/aes"
)

// slowTimes is the document's sentence of Times: the product of two polynomials, and what is left of it by x^8 + x^4 + x^3 + x + 1.
func slowTimes(a, b byte) byte {
	var product int
	for i := range 8 {
		for j := range 8 {
			product ^= int(a>>i&1) * int(b>>j&1) << (i + j)
		}
	}
	for i := 14; i >= 8; i-- {
		if product>>i&1 == 1 {
			product ^= 0x11b << (i - 8)
		}
	}
	return byte(product)
}

// products are those of all pairs of bytes.
func products() *[256][256]byte {
	var all [256][256]byte
	for a := range 256 {
		for b := range 256 {
			all[a][b] = aes.Times(byte(a), byte(b))
		}
	}
	return &all
}

func TestKnownProducts(t *testing.T) {
	for _, c := range []struct{ a, b, want byte }{
		{0x57, 0x83, 0xc1}, // the document's example
		{0x57, 0x13, 0xfe},
		{0x57, 0x01, 0x57},
		{0x57, 0x02, 0xae},
		{0x57, 0x04, 0x47},
		{0x57, 0x08, 0x8e},
		{0x57, 0x10, 0x07},
		{0x80, 0x02, 0x1b},
		{0x40, 0x02, 0x80},
		{0x80, 0x80, 0x9a},
		{0xff, 0xff, 0x13},
		{0x53, 0xca, 0x01},
		{0x03, 0xf6, 0x01},
		{0x02, 0x8d, 0x01},
		{0, 0, 0},
		{1, 1, 1},
		{3, 3, 5},
	} {
		if got, back := aes.Times(c.a, c.b), aes.Times(c.b, c.a); got != c.want || back != c.want {
			t.Errorf("%x and %x: %x, and %x the other way round", c.a, c.b, got, back)
		}
	}
}

func TestProductsOfAllPairs(t *testing.T) {
	all := products()
	for a := range 256 {
		for b := range 256 {
			if want := slowTimes(byte(a), byte(b)); all[a][b] != want {
				t.Errorf("%x and %x: %x, not %x", a, b, all[a][b], want)
			}
			if all[a][b] != all[b][a] {
				t.Errorf("%x and %x: %x, and %x the other way round", a, b, all[a][b], all[b][a])
			}
		}
	}
}

func TestProductsWithNoughtAndOne(t *testing.T) {
	for i := range 256 {
		a := byte(i)
		if aes.Times(a, 0) != 0 || aes.Times(0, a) != 0 {
			t.Errorf("%x and 0: %x, %x", a, aes.Times(a, 0), aes.Times(0, a))
		}
		if aes.Times(a, 1) != a || aes.Times(1, a) != a {
			t.Errorf("%x and 1: %x, %x", a, aes.Times(a, 1), aes.Times(1, a))
		}
	}
}

// TestTimesIsAssociativeAndDistributes goes through all threes of bytes.
func TestTimesIsAssociativeAndDistributes(t *testing.T) {
	all := products()
	for a := range 256 {
		for b := range 256 {
			for c := range 256 {
				if all[all[a][b]][c] != all[a][all[b][c]] {
					t.Fatalf("not associative: %x, %x and %x", a, b, c)
				}
				if all[a][b^c] != all[a][b]^all[a][c] || all[b^c][a] != all[b][a]^all[c][a] {
					t.Fatalf("%x does not distribute over %x and %x", a, b, c)
				}
			}
		}
	}
}

// TestTimesIsAFields: a byte that is not 0 takes no two others to the same product, so that there is one with the product 1.
func TestTimesIsAFields(t *testing.T) {
	all := products()
	for a := 1; a < 256; a++ {
		var seen [256]bool
		for b := range 256 {
			if seen[all[a][b]] {
				t.Fatalf("%x comes to %x twice", a, all[a][b])
			}
			seen[all[a][b]] = true
		}
	}
}
