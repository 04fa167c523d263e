package sha_test

import (
	"encoding/hex"
	"math"
	"math/rand"
	"strings"
	"testing"

	"legate/sha"
)

func TestPad(t *testing.T) {
	for _, c := range []struct {
		n       int
		noughts int
		count   string
	}{
		{0, 55, "0000000000000000"},
		{1, 54, "0000000000000008"},
		{3, 52, "0000000000000018"},
		{31, 24, "00000000000000f8"},
		{32, 23, "0000000000000100"},
		{54, 1, "00000000000001b0"},
		{55, 0, "00000000000001b8"},
		{56, 63, "00000000000001c0"},
		{57, 62, "00000000000001c8"},
		{63, 56, "00000000000001f8"},
		{64, 55, "0000000000000200"},
		{65, 54, "0000000000000208"},
		{119, 0, "00000000000003b8"},
		{120, 63, "00000000000003c0"},
		{127, 56, "00000000000003f8"},
		{128, 55, "0000000000000400"},
		{129, 54, "0000000000000408"},
		{8191, 56, "000000000000fff8"},
		{8192, 55, "0000000000010000"},
		{1 << 29, 55, "0000000100000000"},
		{1<<31 - 1, 56, "00000003fffffff8"},
	} {
		if got := hex.EncodeToString([]byte(sha.Pad(c.n))); got != "80"+strings.Repeat("00", c.noughts)+c.count {
			t.Errorf("%d: %s", c.n, got)
		}
	}
}

func TestPadBelowNought(t *testing.T) {
	for _, n := range []int{-1, -2, -8, -9, -55, -56, -63, -64, -65, -128, math.MinInt32, math.MinInt + 1, math.MinInt} {
		if got := sha.Pad(n); got != "" {
			t.Errorf("%d: %x", n, got)
		}
	}
}

// TestPadWhereTheNumberGoesRound: of n from 2^61 on 8 n does not fit into 8 bytes, and at the greatest n nothing may be added to n itself.
func TestPadWhereTheNumberGoesRound(t *testing.T) {
	for _, c := range []struct {
		n       int
		noughts int
		count   string
	}{
		{1<<60 - 1, 56, "7ffffffffffffff8"},
		{1 << 60, 55, "8000000000000000"},
		{1<<61 - 1, 56, "fffffffffffffff8"},
		{1 << 61, 55, "0000000000000000"},
		{1<<61 + 1, 54, "0000000000000008"},
		{1<<61 + 55, 0, "00000000000001b8"},
		{1<<61 + 56, 63, "00000000000001c0"},
		{1 << 62, 55, "0000000000000000"},
		{1<<62 + 1<<61 + 3, 52, "0000000000000018"},
		{math.MaxInt - 63, 55, "fffffffffffffe00"},
		{math.MaxInt - 9, 1, "ffffffffffffffb0"},
		{math.MaxInt - 8, 0, "ffffffffffffffb8"},
		{math.MaxInt - 7, 63, "ffffffffffffffc0"},
		{math.MaxInt - 1, 57, "fffffffffffffff0"},
		{math.MaxInt, 56, "fffffffffffffff8"},
	} {
		if got := hex.EncodeToString([]byte(sha.Pad(c.n))); got != "80"+strings.Repeat("00", c.noughts)+c.count {
			t.Errorf("%d: %s", c.n, got)
		}
	}
}

// checkPad holds, at any length, what the document says of what is laid behind.
func checkPad(t *testing.T, n int) {
	t.Helper()
	got := sha.Pad(n)
	// As few as there can be: 80 and the number, and less than one block beside them.
	if len(got) < 9 || len(got) > 72 || (n%64+len(got))%64 != 0 || got[0] != 0x80 {
		t.Fatalf("%d: %x", n, got)
	}
	if strings.Trim(got[1:len(got)-8], "\x00") != "" {
		t.Fatalf("%d: %x", n, got)
	}
	var count uint64
	for _, b := range []byte(got[len(got)-8:]) {
		count = count<<8 + uint64(b)
	}
	if count != uint64(n)<<3 {
		t.Fatalf("%d: %x", n, got)
	}
}

func TestPadAtAllLengths(t *testing.T) {
	for n := range 5000 {
		checkPad(t, n)
	}
	r := rand.New(rand.NewSource(6))
	for range 5000 {
		checkPad(t, r.Int()>>r.Intn(60))
	}
	for i := range 200 {
		checkPad(t, math.MaxInt-i)
	}
}
