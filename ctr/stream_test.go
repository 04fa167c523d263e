package ctr_test

import (
	librarys "crypto/aes"
	"crypto/cipher"
	"encoding/binary"
	"encoding/hex"
	"math"
	"math/rand"
	"strings"
	"testing"

	"legate/aes"
	"legate/ctr"
)

// longest is how many bytes a stream has at most.
const longest = 1048576

// raw is the text that hexadecimal digits tell; blanks between them are left out.
func raw(t *testing.T, digits string) string {
	t.Helper()
	b, err := hex.DecodeString(strings.ReplaceAll(digits, " ", ""))
	if err != nil {
		t.Fatal(err)
	}
	return string(b)
}

// byChance is a text of so many bytes.
func byChance(r *rand.Rand, n int) string {
	b := make([]byte, n)
	for i := range b {
		b[i] = byte(r.Intn(256))
	}
	return string(b)
}

func letters(n int) string { return strings.Repeat("a", n) }

func noughts(n int) string { return strings.Repeat("\x00", n) }

// lengths are those of streams and texts: about the edges of one block and of two, of some hundreds of bytes,
// and about those where the number behind the nonce gets a second byte, and where it has two that are not 0.
func lengths() []int {
	return []int{0, 1, 2, 15, 16, 17, 31, 32, 33, 100, 255, 256, 257, 300, 777, 4095, 4096, 4097, 4111, 4112, 4113, 5000, 8200, 70001}
}

// library is a text, ciphered by the library's counter mode, that is not written here.
func library(t *testing.T, key, nonce, s string) string {
	t.Helper()
	c, err := librarys.NewCipher([]byte(key))
	if err != nil {
		t.Fatal(err)
	}
	b := make([]byte, len(s))
	cipher.NewCTR(c, []byte(nonce+"\x00\x00\x00\x00")).XORKeyStream(b, []byte(s))
	return string(b)
}

// block is one of a stream, as the document's sentence says it.
func block(key, nonce string, i int) string {
	return aes.Encrypt(key, string(binary.BigEndian.AppendUint32([]byte(nonce), uint32(i))))
}

// checkBlocks holds each 16 bytes of a stream, and what is left behind them, against aes.Encrypt.
func checkBlocks(t *testing.T, key, nonce, stream string) {
	t.Helper()
	for i := 0; 16*i < len(stream); i++ {
		got := stream[16*i : min(16*i+16, len(stream))]
		if want := block(key, nonce, i)[:len(got)]; got != want {
			t.Fatalf("key %x, nonce %x, %d bytes: block %d is %x, not %x", key, nonce, len(stream), i, got, want)
		}
	}
}

func TestKnownStreams(t *testing.T) {
	for _, c := range []struct {
		name, key, nonce string
		from             int
		want             string
	}{
		{"noughts", "00000000000000000000000000000000", "000000000000000000000000", 0,
			"66e94bd4ef8a2c3b884cfa59ca342b2e 58e2fccefa7e3061367f1d57a4e7455a 0388dace60b6a392f328c2b971b2fe78"},
		{"one block, behind the first", "ae6852f8121067cc4bf7a5765577f39e", "000000300000000000000000", 16,
			"b7603328dbc2931b410e16c8067e62df"},
		{"two blocks, behind the first", "7e24067817fae0d743d6ce1f32539163", "006cb6dbc0543b59da48d90b", 16,
			"5105a305128f74de71044be582d7dd87 fb3f0cef52cf41dfe4ff2ac48d5ca037"},
	} {
		want := raw(t, c.want)
		if got := ctr.Stream(raw(t, c.key), raw(t, c.nonce), c.from+len(want)); got[min(c.from, len(got)):] != want {
			t.Errorf("%s: %x", c.name, got)
		}
	}
}

func TestStreamsOfAllLengths(t *testing.T) {
	r := rand.New(rand.NewSource(1))
	for _, n := range lengths() {
		k, nonce := byChance(r, 16), byChance(r, 12)
		got := ctr.Stream(k, nonce, n)
		if len(got) != n {
			t.Fatalf("%d bytes, not %d", len(got), n)
		}
		checkBlocks(t, k, nonce, got)
		if got != library(t, k, nonce, noughts(n)) {
			t.Errorf("%d bytes: not the library's", n)
		}
	}
}

// TestShortStreams goes through each length of the first blocks.
func TestShortStreams(t *testing.T) {
	k, nonce := "0123456789abcdef", "hello, world"
	want := block(k, nonce, 0) + block(k, nonce, 1) + block(k, nonce, 2) + block(k, nonce, 3)
	for n := range len(want) + 1 {
		if got := ctr.Stream(k, nonce, n); got != want[:n] {
			t.Errorf("%d bytes: %x", n, got)
		}
	}
}

func TestAShorterStreamIsTheBeginningOfALongerOne(t *testing.T) {
	r := rand.New(rand.NewSource(2))
	for range 3 {
		k, nonce := byChance(r, 16), byChance(r, 12)
		long := ctr.Stream(k, nonce, 100000)
		for _, n := range lengths() {
			if got := ctr.Stream(k, nonce, n); got != long[:n] {
				t.Errorf("key %x, nonce %x: %d bytes are not the beginning of %d", k, nonce, n, len(long))
			}
		}
	}
}

func TestTheLongestStream(t *testing.T) {
	k, nonce := "0123456789abcdef", "\xff\xff\xff\xff\xff\xff\xff\xff\xff\xff\xff\xff"
	long := ctr.Stream(k, nonce, longest)
	if len(long) != longest {
		t.Fatalf("%d bytes", len(long))
	}
	checkBlocks(t, k, nonce, long)
	if long != library(t, k, nonce, noughts(longest)) {
		t.Error("not the library's")
	}
	if got := ctr.Stream(k, nonce, longest-1); got != long[:longest-1] {
		t.Errorf("%d bytes, or others, of one less", len(got))
	}
}

func TestStreamsOfNoSuchLength(t *testing.T) {
	for _, n := range []int{
		longest + 1, longest + 2, longest + 15, longest + 16, 2 * longest, 1<<31 - 1, 1 << 31, 1 << 32, 1<<32 + 16,
		math.MaxInt - 15, math.MaxInt - 1, math.MaxInt, -1, -2, -15, -16, -17, -longest, -1 << 31, -1<<32 + 16, math.MinInt, math.MinInt + 16,
	} {
		if got := ctr.Stream(letters(16), letters(12), n); got != "" {
			t.Errorf("%d: %d bytes", n, len(got))
		}
	}
}

func TestStreamsOfOtherKeysAndNonces(t *testing.T) {
	for k := range 40 {
		for nonce := range 40 {
			for _, n := range []int{0, 1, 33} {
				want := 0
				if k == 16 && nonce == 12 {
					want = n
				}
				if got := ctr.Stream(letters(k), letters(nonce), n); len(got) != want {
					t.Errorf("a key of %d bytes, a nonce of %d: %x", k, nonce, got)
				}
			}
		}
	}
	for _, n := range []int{0, 11, 13, 15, 17, 24, 28, 32, 176, 268, 272, 65548, 65552, longest + 12, longest + 16} {
		for _, s := range []string{letters(n), noughts(n)} {
			for _, count := range []int{-1, 0, 1, 16, 100, longest, longest + 1} {
				if ctr.Stream(s, letters(12), count) != "" || ctr.Stream(letters(16), s, count) != "" || ctr.Stream(s, s, count) != "" {
					t.Errorf("a key or a nonce of %d bytes, a stream of %d", n, count)
				}
			}
		}
	}
}

// TestNumbersAreNotCountedIntoTheNonce: a stream whose nonce is the next one is not this stream, some blocks on.
func TestNumbersAreNotCountedIntoTheNonce(t *testing.T) {
	k := "0123456789abcdef"
	long := ctr.Stream(k, noughts(12), 16384)
	for i := range 12 {
		var nonce [12]byte
		nonce[i] = 1
		if strings.Contains(long, ctr.Stream(k, string(nonce[:]), 16)) {
			t.Errorf("byte %d of the nonce", i)
		}
	}
}

// TestAStreamHangsOnItsArgumentsAlone: neither an earlier call nor one at the same time is to be seen in an answer.
func TestAStreamHangsOnItsArgumentsAlone(t *testing.T) {
	r := rand.New(rand.NewSource(3))
	k, nonce := byChance(r, 16), byChance(r, 12)
	want := library(t, k, nonce, noughts(5000))
	done := make(chan string)
	for i := range 8 {
		go func() {
			ctr.Stream(letters(16), nonce, 100*i)
			ctr.Cipher(k, letters(12), "another one")
			ctr.Stream(k, nonce, longest+i+1)
			done <- ctr.Stream(k, nonce, 5000)
		}()
	}
	for range 8 {
		if <-done != want {
			t.Error("another stream")
		}
	}
}

func BenchmarkStream(b *testing.B) {
	b.SetBytes(65536)
	for b.Loop() {
		ctr.Stream("0123456789abcdef", "hello, world", 65536)
	}
}
