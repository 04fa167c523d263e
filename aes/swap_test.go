package aes_test

import (
	"math/bits"
	"testing"

	"legate/aes"
)

// slowSwap is the document's sentence of Swap, word for word.
func slowSwap(a byte) byte {
	var b byte
	for i := range 256 {
		if slowTimes(a, byte(i)) == 1 {
			b = byte(i)
		}
	}
	turned := func(n int) byte { return b<<n | b>>(8-n) }
	return b ^ turned(1) ^ turned(2) ^ turned(3) ^ turned(4) ^ 0x63
}

func TestSwapAtAllBytes(t *testing.T) {
	for i := range 256 {
		if got, want := aes.Swap(byte(i)), slowSwap(byte(i)); got != want {
			t.Errorf("%x: %x, not %x", i, got, want)
		}
	}
}

func TestKnownSwaps(t *testing.T) {
	rows := map[int]string{
		0x00: "\x63\x7c\x77\x7b\xf2\x6b\x6f\xc5\x30\x01\x67\x2b\xfe\xd7\xab\x76",
		0x10: "\xca\x82\xc9\x7d\xfa\x59\x47\xf0\xad\xd4\xa2\xaf\x9c\xa4\x72\xc0",
		0x50: "\x53\xd1\x00\xed\x20\xfc\xb1\x5b\x6a\xcb\xbe\x39\x4a\x4c\x58\xcf",
		0xf0: "\x8c\xa1\x89\x0d\xbf\xe6\x42\x68\x41\x99\x2d\x0f\xb0\x54\xbb\x16",
	}
	for from, row := range rows {
		for i := range len(row) {
			if got := aes.Swap(byte(from + i)); got != row[i] {
				t.Errorf("%x: %x, not %x", from+i, got, row[i])
			}
		}
	}
	if got := aes.Swap(0); got != 0x63 {
		t.Errorf("0: %x", got)
	}
}

// TestSwapComesOfTheProductOne: what is turned and added is taken back, and the product of what is left with the byte is 1.
func TestSwapComesOfTheProductOne(t *testing.T) {
	for i := range 256 {
		s := aes.Swap(byte(i)) ^ 0x63
		b := bits.RotateLeft8(s, 1) ^ bits.RotateLeft8(s, 3) ^ bits.RotateLeft8(s, 6)
		want := byte(1)
		if i == 0 {
			want = 0
		}
		if got := aes.Times(byte(i), b); got != want || i == 0 && b != 0 {
			t.Errorf("%x, swapped of %x: the product is %x", i, b, got)
		}
	}
}

func TestUnlikeBytesAreSwappedUnlike(t *testing.T) {
	var seen [256]bool
	for i := range 256 {
		s := aes.Swap(byte(i))
		if seen[s] || s == byte(i) || s == ^byte(i) {
			t.Errorf("%x: %x", i, s)
		}
		seen[s] = true
	}
}
