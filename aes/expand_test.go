package aes_test

import (
	"encoding/hex"
	"math/rand"
	"strings"
	"testing"

	"legate/aes"
)

// raw is the text that hexadecimal digits tell; blanks between them are left out.
func raw(t *testing.T, digits string) string {
	t.Helper()
	b, err := hex.DecodeString(strings.ReplaceAll(digits, " ", ""))
	if err != nil {
		t.Fatal(err)
	}
	return string(b)
}

// byChance is a text of so many bytes.
func byChance(r *rand.Rand, n int) string {
	b := make([]byte, n)
	for i := range b {
		b[i] = byte(r.Intn(256))
	}
	return string(b)
}

func letters(n int) string { return strings.Repeat("a", n) }

// edges are texts of 16 bytes: all of one bit, of none, of all, of one byte each, and counted ones.
func edges() []string {
	l := []string{"\x00\x01\x02\x03\x04\x05\x06\x07\x08\x09\x0a\x0b\x0c\x0d\x0e\x0f", letters(16), "0123456789abcdef"}
	for _, b := range []string{"\x00", "\x01", "\x52", "\x63", "\x7f", "\x80", "\xff"} {
		l = append(l, strings.Repeat(b, 16))
	}
	for i := range 128 {
		var one [16]byte
		one[i/8] = 0x80 >> (i % 8)
		l = append(l, string(one[:]))
	}
	return l
}

// slowExpand is the document's sentence of Expand, word for word.
func slowExpand(key string) string {
	var words []string
	r := byte(1)
	for i := range 44 {
		if i < 4 {
			words = append(words, key[4*i:4*i+4])
			continue
		}
		last := []byte(words[i-1])
		if i%4 == 0 {
			last = append(last[1:], last[0])
			for j := range last {
				last[j] = slowSwap(last[j])
			}
			last[0] ^= r
			r = slowTimes(r, 2)
		}
		for j := range last {
			last[j] ^= words[i-4][j]
		}
		words = append(words, string(last))
	}
	return strings.Join(words, "")
}

func TestKnownKeys(t *testing.T) {
	for key, want := range map[string]string{
		"2b7e151628aed2a6abf7158809cf4f3c": "2b7e1516 28aed2a6 abf71588 09cf4f3c a0fafe17 88542cb1 23a33939 2a6c7605 " +
			"f2c295f2 7a96b943 5935807a 7359f67f 3d80477d 4716fe3e 1e237e44 6d7a883b ef44a541 a8525b7f b671253b db0bad00 " +
			"d4d1c6f8 7c839d87 caf2b8bc 11f915bc 6d88a37a 110b3efd dbf98641 ca0093fd 4e54f70e 5f5fc9f3 84a64fb2 4ea6dc4f " +
			"ead27321 b58dbad2 312bf560 7f8d292f ac7766f3 19fadc21 28d12941 575c006e d014f9a8 c9ee2589 e13f0cc8 b6630ca6",
		"00000000000000000000000000000000": "00000000 00000000 00000000 00000000 62636363 62636363 62636363 62636363 " +
			"9b9898c9 f9fbfbaa 9b9898c9 f9fbfbaa 90973450 696ccffa f2f45733 0b0fac99 ee06da7b 876a1581 759e42b2 7e91ee2b " +
			"7f2e2b88 f8443e09 8dda7cbb f34b9290 ec614b85 1425758c 99ff0937 6ab49ba7 21751787 3550620b acaf6b3c c61bf09b " +
			"0ef90333 3ba96138 97060a04 511dfa9f b1d4d8e2 8a7db9da 1d7bb3de 4c664941 b4ef5bcb 3e92e211 23e951cf 6f8f188e",
	} {
		if got := aes.Expand(raw(t, key)); got != raw(t, want) {
			t.Errorf("%s: %x", key, got)
		}
	}
}

func TestExpandIsAsTheDocumentSays(t *testing.T) {
	r := rand.New(rand.NewSource(1))
	keys := edges()
	for range 200 {
		keys = append(keys, byChance(r, 16))
	}
	for _, k := range keys {
		got, want := aes.Expand(k), slowExpand(k)
		if len(got) != 176 || got[:16] != k {
			t.Fatalf("%x: %d bytes, %x", k, len(got), got)
		}
		for i := range 44 {
			if got[4*i:4*i+4] != want[4*i:4*i+4] {
				t.Errorf("%x: word %d is %x, not %x", k, i, got[4*i:4*i+4], want[4*i:4*i+4])
			}
		}
	}
}

// TestWhatTheFirstByteIsChangedWith holds r of each round: the word i - 4, the word behind it, and Swap tell it.
func TestWhatTheFirstByteIsChangedWith(t *testing.T) {
	keys := aes.Expand("0123456789abcdef")
	for i, r := range []byte{0x01, 0x02, 0x04, 0x08, 0x10, 0x20, 0x40, 0x80, 0x1b, 0x36} {
		at := 16 * (i + 1)
		if got := keys[at] ^ keys[at-16] ^ aes.Swap(keys[at-3]); got != r {
			t.Errorf("round %d: %x, not %x", i+1, got, r)
		}
	}
}

func TestKeysOfOtherLengths(t *testing.T) {
	for n := range 300 {
		for _, k := range []string{letters(n), strings.Repeat("\x00", n), strings.Repeat("\xff", n)} {
			if got := aes.Expand(k); n != 16 && got != "" || n == 16 && len(got) != 176 {
				t.Errorf("%d bytes: %x", n, got)
			}
		}
	}
	for _, n := range []int{65536, 65552, 1 << 20, 1<<20 + 16} {
		if got := aes.Expand(letters(n)); got != "" {
			t.Errorf("%d bytes: %x", n, got)
		}
	}
}
