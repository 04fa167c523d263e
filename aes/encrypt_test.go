package aes_test

import (
	librarys "crypto/aes"
	"crypto/cipher"
	"math/rand"
	"strings"
	"testing"

	"legate/aes"
)

// library is AES of the library, that is not written here.
func library(t *testing.T, key string) cipher.Block {
	t.Helper()
	c, err := librarys.NewCipher([]byte(key))
	if err != nil {
		t.Fatal(err)
	}
	return c
}

// checkBlock holds an answer against the library's, in one direction and back.
func checkBlock(t *testing.T, key, block string) {
	t.Helper()
	c := library(t, key)
	var want, back [16]byte
	c.Encrypt(want[:], []byte(block))
	got := aes.Encrypt(key, block)
	if got != string(want[:]) {
		t.Fatalf("Encrypt(%x, %x) %x, not %x", key, block, got, want)
	}
	c.Decrypt(back[:], []byte(got))
	if string(back[:]) != block {
		t.Fatalf("Encrypt(%x, %x) %x, and back %x", key, block, got, back)
	}
}

// slowEncrypt is the document's sentence of Encrypt, word for word.
func slowEncrypt(key, block string) string {
	keys := slowExpand(key)
	s := []byte(block)
	plus := func(from int) {
		for i := range s {
			s[i] ^= keys[from+i]
		}
	}
	plus(0)
	for round := 1; round <= 10; round++ {
		for i := range s {
			s[i] = slowSwap(s[i])
		}
		was := string(s)
		for c := range 4 {
			for r := range 4 {
				s[4*c+r] = was[4*((c+r)%4)+r]
			}
		}
		for c := 0; c < 4 && round != 10; c++ {
			column := s[4*c : 4*c+4]
			a, b, c, d := column[0], column[1], column[2], column[3]
			column[0] = slowTimes(2, a) ^ slowTimes(3, b) ^ c ^ d
			column[1] = a ^ slowTimes(2, b) ^ slowTimes(3, c) ^ d
			column[2] = a ^ b ^ slowTimes(2, c) ^ slowTimes(3, d)
			column[3] = slowTimes(3, a) ^ b ^ c ^ slowTimes(2, d)
		}
		plus(16 * round)
	}
	return string(s)
}

func TestKnownBlocks(t *testing.T) {
	for _, c := range []struct{ name, key, block, want string }{
		{"the document's example", "000102030405060708090a0b0c0d0e0f", "00112233445566778899aabbccddeeff", "69c4e0d86a7b0430d8cdb78070b4c55a"},
		{"a block with its rounds told", "2b7e151628aed2a6abf7158809cf4f3c", "3243f6a8885a308d313198a2e0370734", "3925841d02dc09fbdc118597196a0b32"},
		{"the first of four", "2b7e151628aed2a6abf7158809cf4f3c", "6bc1bee22e409f96e93d7e117393172a", "3ad77bb40d7a3660a89ecaf32466ef97"},
		{"the second", "2b7e151628aed2a6abf7158809cf4f3c", "ae2d8a571e03ac9c9eb76fac45af8e51", "f5d3d58503b9699de785895a96fdbaaf"},
		{"the third", "2b7e151628aed2a6abf7158809cf4f3c", "30c81c46a35ce411e5fbc1191a0a52ef", "43b1cd7f598ece23881b00e3ed030688"},
		{"the fourth", "2b7e151628aed2a6abf7158809cf4f3c", "f69f2445df4f9b17ad2b417be66c3710", "7b0c785e27e8ad3f8223207104725dd4"},
		{"noughts", "00000000000000000000000000000000", "00000000000000000000000000000000", "66e94bd4ef8a2c3b884cfa59ca342b2e"},
		{"a key of one bit", "80000000000000000000000000000000", "00000000000000000000000000000000", "0edd33d3c621e546455bd8ba1418bec8"},
		{"a block of one bit", "00000000000000000000000000000000", "80000000000000000000000000000000", "3ad78e726c1ec02b7ebfe92b23d9ec34"},
		{"a block of all bits", "00000000000000000000000000000000", "ffffffffffffffffffffffffffffffff", "3f5b8cc9ea855a0afa7347d23e8d664e"},
	} {
		if got := aes.Encrypt(raw(t, c.key), raw(t, c.block)); got != raw(t, c.want) {
			t.Errorf("%s: %x", c.name, got)
		}
	}
}

func TestBlocksAtTheEdges(t *testing.T) {
	for _, k := range edges() {
		for _, b := range edges() {
			checkBlock(t, k, b)
		}
	}
}

func TestBlocksByChance(t *testing.T) {
	r := rand.New(rand.NewSource(2))
	for range 20000 {
		checkBlock(t, byChance(r, 16), byChance(r, 16))
	}
}

func TestEncryptIsAsTheDocumentSays(t *testing.T) {
	r := rand.New(rand.NewSource(3))
	for range 50 {
		k, b := byChance(r, 16), byChance(r, 16)
		if got, want := aes.Encrypt(k, b), slowEncrypt(k, b); got != want {
			t.Errorf("Encrypt(%x, %x) %x, not %x", k, b, got, want)
		}
	}
}

// TestBlocksInAChain: each block is what came of the one ahead of it, and each key, at times, what came of the last one.
func TestBlocksInAChain(t *testing.T) {
	key, block := strings.Repeat("\x00", 16), strings.Repeat("\x00", 16)
	for i := range 5000 {
		checkBlock(t, key, block)
		block = aes.Encrypt(key, block)
		if i%100 == 99 {
			key = aes.Encrypt(block, key)
		}
	}
}

// unlike holds that no two blocks come out the same with one key.
func unlike(t *testing.T, key string, blocks []string) {
	t.Helper()
	seen := map[string]string{}
	for _, b := range blocks {
		got := aes.Encrypt(key, b)
		if other, ok := seen[got]; ok && other != b || len(got) != 16 {
			t.Fatalf("key %x: %x and %x come out as %x", key, other, b, got)
		}
		seen[got] = b
	}
}

func TestTwoBlocksComeOutUnlike(t *testing.T) {
	r := rand.New(rand.NewSource(4))
	keys := append(edges()[:10], byChance(r, 16), byChance(r, 16))
	for _, k := range keys {
		blocks := edges()
		near := byChance(r, 16)
		for i := range 16 {
			for change := range 256 {
				b := []byte(near)
				b[i] ^= byte(change)
				blocks = append(blocks, string(b))
			}
		}
		for range 5000 {
			blocks = append(blocks, byChance(r, 16))
		}
		unlike(t, k, blocks)
	}
}

// TestCountedBlocksComeOutUnlike goes through 65536 blocks that part in their last two bytes alone.
func TestCountedBlocksComeOutUnlike(t *testing.T) {
	var blocks []string
	for i := range 1 << 16 {
		blocks = append(blocks, strings.Repeat("\x00", 14)+string([]byte{byte(i >> 8), byte(i)}))
	}
	unlike(t, "0123456789abcdef", blocks)
}

func TestBlocksAndKeysOfOtherLengths(t *testing.T) {
	for n := range 70 {
		for m := range 70 {
			got := aes.Encrypt(letters(n), letters(m))
			if whole := n == 16 && m == 16; !whole && got != "" || whole && len(got) != 16 {
				t.Errorf("a key of %d bytes, a block of %d: %x", n, m, got)
			}
		}
	}
	for _, n := range []int{0, 15, 17, 24, 32, 176, 65536, 65552, 1<<20 + 16} {
		for _, s := range []string{letters(n), strings.Repeat("\x00", n)} {
			if aes.Encrypt(s, letters(16)) != "" || aes.Encrypt(letters(16), s) != "" || aes.Encrypt(s, s) != "" {
				t.Errorf("%d bytes", n)
			}
		}
	}
}

// TestABlockHangsOnItsArgumentsAlone: neither an earlier call nor one at the same time is to be seen in an answer.
func TestABlockHangsOnItsArgumentsAlone(t *testing.T) {
	r := rand.New(rand.NewSource(5))
	k, b := byChance(r, 16), byChance(r, 16)
	var want [16]byte
	library(t, k).Encrypt(want[:], []byte(b))
	done := make(chan string)
	for range 8 {
		go func() {
			aes.Encrypt(b, k)
			aes.Expand(letters(16))
			aes.Encrypt(letters(16), "another one")
			done <- aes.Encrypt(k, b)
		}()
	}
	for range 8 {
		if got := <-done; got != string(want[:]) {
			t.Errorf("%x", got)
		}
	}
}

func BenchmarkEncrypt(b *testing.B) {
	b.SetBytes(16)
	for b.Loop() {
		aes.Encrypt("0123456789abcdef", "a block of bytes")
	}
}
