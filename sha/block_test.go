package sha_test

import (
	"crypto/sha256"
	"encoding"
	"encoding/binary"
	"math/big"
	"math/rand"
	"strings"
	"testing"

	"legate/sha"
)

// primes are the first n primes.
func primes(n int) []int64 {
	var l []int64
	for p := int64(2); len(l) < n; p++ {
		if big.NewInt(p).ProbablyPrime(0) {
			l = append(l, p)
		}
	}
	return l
}

// behindPoint is the first 32 bits behind the point of p's root: the square one, if k is 2, and the cube one, if it is 3.
func behindPoint(p int64, k int) uint32 {
	power := big.NewInt(int64(k))
	want := new(big.Int).Lsh(big.NewInt(p), uint(32*k))
	root := new(big.Int)
	for bit := 40; bit >= 0; bit-- {
		more := new(big.Int).SetBit(root, bit, 1)
		if new(big.Int).Exp(more, power, nil).Cmp(want) <= 0 {
			root = more
		}
	}
	return uint32(root.Uint64())
}

func TestStart(t *testing.T) {
	var want []byte
	for _, p := range primes(8) {
		want = binary.BigEndian.AppendUint32(want, behindPoint(p, 2))
	}
	for range 2 {
		if got := sha.Start(); got != string(want) {
			t.Errorf("%x", got)
		}
	}
	if got := sha.Start(); !strings.HasPrefix(got, "\x6a\x09\xe6\x67\xbb\x67\xae\x85") || len(got) != 32 {
		t.Errorf("%x", got)
	}
}

func turned(x uint32, n int) uint32 { return x>>n | x<<(32-n) }

// slowBlock is the document's sentence of Block, word for word, with roots that are reckoned.
func slowBlock(state, block string, k []uint32) string {
	w := make([]uint32, 64)
	for t := range 16 {
		w[t] = binary.BigEndian.Uint32([]byte(block[4*t:]))
	}
	for t := 16; t < 64; t++ {
		x, y := w[t-15], w[t-2]
		s0 := turned(x, 7) ^ turned(x, 18) ^ x>>3
		s1 := turned(y, 17) ^ turned(y, 19) ^ y>>10
		w[t] = s1 + w[t-7] + s0 + w[t-16]
	}
	var first [8]uint32
	for i := range first {
		first[i] = binary.BigEndian.Uint32([]byte(state[4*i:]))
	}
	v := first
	for t := range 64 {
		a, b, c, e, f, g := v[0], v[1], v[2], v[4], v[5], v[6]
		T := v[7] + (turned(e, 6) ^ turned(e, 11) ^ turned(e, 25)) + ((e & f) ^ (^e & g)) + k[t] + w[t]
		U := (turned(a, 2) ^ turned(a, 13) ^ turned(a, 22)) + ((a & b) ^ (a & c) ^ (b & c))
		copy(v[1:], v[:7])
		v[4] += T
		v[0] = T + U
	}
	var out []byte
	for i := range v {
		out = binary.BigEndian.AppendUint32(out, first[i]+v[i])
	}
	return string(out)
}

func TestBlockIsAsTheDocumentSays(t *testing.T) {
	var k []uint32
	for _, p := range primes(64) {
		k = append(k, behindPoint(p, 3))
	}
	r := rand.New(rand.NewSource(7))
	states := []string{sha.Start(), strings.Repeat("\x00", 32), strings.Repeat("\xff", 32), strings.Repeat("\x80\x00\x00\x00", 8)}
	blocks := []string{strings.Repeat("\x00", 64), strings.Repeat("\xff", 64), strings.Repeat("\x80\x00\x00\x00", 16)}
	for range 50 {
		states = append(states, byChance(r, 32))
		blocks = append(blocks, byChance(r, 64))
	}
	for _, s := range states {
		for _, b := range blocks {
			if got := sha.Block(s, b); got != slowBlock(s, b, k) {
				t.Errorf("Block(%x, %x) %x", s, b, got)
			}
		}
	}
}

// libraryBlock is the state that the library's own sum has behind a block.
func libraryBlock(t *testing.T, state, block string) string {
	t.Helper()
	h := sha256.New()
	kept, err := h.(encoding.BinaryMarshaler).MarshalBinary()
	if err != nil {
		t.Fatal(err)
	}
	const at = 4 // behind four letters the state is kept
	copy(kept[at:], state)
	if err := h.(encoding.BinaryUnmarshaler).UnmarshalBinary(kept); err != nil {
		t.Fatal(err)
	}
	h.Write([]byte(block))
	kept, err = h.(encoding.BinaryMarshaler).MarshalBinary()
	if err != nil {
		t.Fatal(err)
	}
	return string(kept[at : at+32])
}

func TestBlockIsAsTheLibrarys(t *testing.T) {
	r := rand.New(rand.NewSource(8))
	for range 2000 {
		s, b := byChance(r, 32), byChance(r, 64)
		if got := sha.Block(s, b); got != libraryBlock(t, s, b) {
			t.Errorf("Block(%x, %x) %x", s, b, got)
		}
	}
}

// TestEachBitOfABlockTells: of each bit of a state and of a block another state comes.
func TestEachBitOfABlockTells(t *testing.T) {
	all := sha.Start() + letters(64)
	seen := map[string]int{sha.Block(all[:32], all[32:]): -1}
	for i := range 8 * len(all) {
		b := []byte(all)
		b[i/8] ^= 1 << (i % 8)
		got := sha.Block(string(b[:32]), string(b[32:]))
		if j, ok := seen[got]; ok || len(got) != 32 {
			t.Errorf("bits %d and %d: %x", i, j, got)
		}
		seen[got] = i
	}
}

func TestBlockOfAnotherLength(t *testing.T) {
	for _, c := range []struct{ state, block int }{
		{0, 0}, {0, 64}, {1, 64}, {31, 64}, {33, 64}, {64, 64}, {32000, 64},
		{32, 0}, {32, 1}, {32, 32}, {32, 63}, {32, 65}, {32, 128}, {32, 64000},
		{64, 32}, {31, 65}, {33, 63}, {31, 63}, {33, 65}, {64, 128},
	} {
		if got := sha.Block(letters(c.state), letters(c.block)); got != "" {
			t.Errorf("a state of %d, a block of %d: %x", c.state, c.block, got)
		}
	}
	for n := range 200 {
		if got := sha.Block(letters(n), letters(64)); (got != "") != (n == 32) {
			t.Errorf("a state of %d: %x", n, got)
		}
		if got := sha.Block(letters(32), letters(n)); (got != "") != (n == 64) {
			t.Errorf("a block of %d: %x", n, got)
		}
	}
}
