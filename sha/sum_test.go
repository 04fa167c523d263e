package sha_test

import (
	"crypto/sha256"
	"encoding/hex"
	"math/rand"
	"strings"
	"testing"

	"legate/sha"
)

func letters(n int) string { return strings.Repeat("a", n) }

// byChance is a text of so many bytes.
func byChance(r *rand.Rand, n int) string {
	b := make([]byte, n)
	for i := range b {
		b[i] = byte(r.Intn(256))
	}
	return string(b)
}

// wanted is the sum of the library, that is not written here.
func wanted(s string) string {
	b := sha256.Sum256([]byte(s))
	return string(b[:])
}

func TestKnownSums(t *testing.T) {
	for _, c := range []struct{ name, s, sum string }{
		{"the document's example", "abc", "ba7816bf8f01cfea414140de5dae2223b00361a396177a9cb410ff61f20015ad"},
		{"nothing", "", "e3b0c44298fc1c149afbf4c8996fb92427ae41e4649b934ca495991b7852b855"},
		{"two blocks", "abcdbcdecdefdefgefghfghighijhijkijkljklmklmnlmnomnopnopq", "248d6a61d20638b8e5c026930c3e6039a33ce45964ff2167f6ecedd419db06c1"},
		{"two blocks, nearly full", "abcdefghbcdefghicdefghijdefghijkefghijklfghijklmghijklmnhijklmnoijklmnopjklmnopqklmnopqrlmnopqrsmnopqrstnopqrstu", "cf5b16a778af8380036ce59e7b0492370b249b11e8f07a51afac45037afee9d1"},
		{"very many blocks", letters(1000000), "cdc76e5c9914fb9281a1c7e284d73e67f1809a48a497200e046d39ccc7112cd0"},
	} {
		if got := hex.EncodeToString([]byte(sha.Sum(c.s))); got != c.sum {
			t.Errorf("%s: %s", c.name, got)
		}
	}
}

// TestSumsOfAllLengths goes through all lengths of up to four blocks and more, of bytes that are all alike, and by chance.
func TestSumsOfAllLengths(t *testing.T) {
	r := rand.New(rand.NewSource(1))
	for n := range 300 {
		for _, s := range []string{byChance(r, n), strings.Repeat("\x00", n), strings.Repeat("\x80", n), strings.Repeat("\xff", n)} {
			if got := sha.Sum(s); got != wanted(s) {
				t.Errorf("%d bytes: Sum(%x) %x", n, s, got)
			}
		}
	}
}

func TestSumsOfLongTexts(t *testing.T) {
	r := rand.New(rand.NewSource(2))
	for _, n := range []int{4095, 4096, 4097, 65535, 65536, 65537, 1 << 20} {
		s := byChance(r, n)
		if got := sha.Sum(s); got != wanted(s) {
			t.Errorf("%d bytes: %x", n, got)
		}
	}
}

// blockByBlock is a state behind a text's blocks, one behind the other.
func blockByBlock(state, s string) string {
	for i := 0; i < len(s); i += 64 {
		state = sha.Block(state, s[i:min(i+64, len(s))])
	}
	return state
}

func TestASumIsThatOfItsBlocks(t *testing.T) {
	r := rand.New(rand.NewSource(3))
	for n := range 400 {
		s := byChance(r, n)
		if got := blockByBlock(sha.Start(), s+sha.Pad(n)); got != sha.Sum(s) || got != wanted(s) {
			t.Errorf("%d bytes: %x", n, got)
		}
	}
}

// TestATextIsCutAtAnyBlock: what is ahead of the cut, and then what is behind it, have the sum of the whole.
func TestATextIsCutAtAnyBlock(t *testing.T) {
	r := rand.New(rand.NewSource(4))
	for _, n := range []int{0, 1, 55, 56, 63, 64, 65, 127, 128, 129, 640, 700} {
		s := byChance(r, n)
		all := s + sha.Pad(n)
		for at := 0; at <= len(all); at += 64 {
			ahead := blockByBlock(sha.Start(), all[:at])
			if got := blockByBlock(ahead, all[at:]); got != sha.Sum(s) {
				t.Errorf("%d bytes, cut at %d: %x", n, at, got)
			}
		}
	}
}

// TestASumHangsOnTheTextAlone: neither an earlier call nor one at the same time is to be seen in an answer.
func TestASumHangsOnTheTextAlone(t *testing.T) {
	r := rand.New(rand.NewSource(5))
	s := byChance(r, 1000)
	done := make(chan string)
	for range 8 {
		go func() {
			sha.Sum("another one")
			sha.Block(sha.Start(), letters(64))
			done <- sha.Sum(s)
		}()
	}
	for range 8 {
		if got := <-done; got != wanted(s) {
			t.Errorf("%x", got)
		}
	}
}

func TestUnlikeTextsHaveUnlikeSums(t *testing.T) {
	seen := map[string]int{}
	for n := range 200 {
		got := sha.Sum(strings.Repeat("\x00", n))
		if m, ok := seen[got]; ok || len(got) != 32 {
			t.Errorf("%d and %d noughts: %x", m, n, got)
		}
		seen[got] = n
	}
}

func BenchmarkSum(b *testing.B) {
	s := letters(1 << 20)
	b.SetBytes(int64(len(s)))
	for b.Loop() {
		sha.Sum(s)
	}
}
