package seal_test

import (
	"math/rand"
	"strings"
	"testing"

	"legate/api"
	"legate/derive"
	"legate/hmac"
	"legate/seal"
)

// holdSum holds a sum against the chapter's sentence and against the library, and checks it.
func holdSum(t *testing.T, base string, use int, body string) {
	t.Helper()
	got := seal.Sum(base, use, body)
	if len(got) != 32 || got != hmac.Mac(derive.Key(base, use, "check"), body) || got != libraryMac(libraryKey(base, use, "check"), body) {
		t.Errorf("Sum(%x, %d, %d bytes): %x", base, use, len(body), got)
	}
	if e := seal.Check(base, use, body, got); e != api.OK {
		t.Errorf("Check(%x, %d, %d bytes): %v", base, use, len(body), e)
	}
}

// wrongSum holds that a sum is not that of a body.
func wrongSum(t *testing.T, what, base string, use int, body, sum string) {
	t.Helper()
	if e := seal.Check(base, use, body, sum); e != api.ErrSum {
		t.Errorf("%s, a body of %d bytes: %v", what, len(body), e)
	}
}

// TestKnownSums were reckoned by another program, Python's HMAC.
func TestKnownSums(t *testing.T) {
	for _, c := range []struct {
		base string
		use  int
		body string
		want string
	}{
		{"key", 3, "hello", "bd0cc273ecb6021af4790d37abb1f5f9e4b306a859ca969a88db76a89853995a"},
		{"", 0, "", "8b038c9eb86a65157f92d1ef8af7b649d7c327afdac022dac9990c6714567458"},
		{strings.Repeat("\x00\xff", 50), -2, "\x80", "b0c0e702212a122d557cb31221e5884c7001a9176b9b8a6639aef9cdc140a73e"},
	} {
		if got := seal.Sum(c.base, c.use, c.body); got != raw(t, c.want) {
			t.Errorf("%q, %d, %q: %x", c.base, c.use, c.body, got)
		}
		if e := seal.Check(c.base, c.use, c.body, raw(t, c.want)); e != api.OK {
			t.Errorf("%q, %d, %q: %v", c.base, c.use, c.body, e)
		}
	}
}

func TestSumsAtEdges(t *testing.T) {
	for _, base := range basesAtEdges() {
		for _, use := range usesAtEdges() {
			for _, body := range []string{"", "hello", letters(65)} {
				holdSum(t, base, use, body)
			}
		}
	}
	for _, body := range bodiesAtEdges() {
		holdSum(t, "key", 3, body)
	}
}

// TestSumsOfLongBodies: a body that is too long to be sealed has a sum all the same.
func TestSumsOfLongBodies(t *testing.T) {
	for _, n := range []int{longest - 1, longest, longest + 1, longest + 44, longest + 45, 1 << 20} {
		body := letters(n)
		holdSum(t, "key", 3, body)
		wrongSum(t, "another body's", "key", 3, body, seal.Sum("key", 3, body[1:]))
	}
	holdSum(t, letters(1<<20), 3, "hello")
}

func TestSumsByChance(t *testing.T) {
	r := rand.New(rand.NewSource(4))
	for range 2000 {
		holdSum(t, byChance(r, r.Intn(140)), int(r.Uint64()), byChance(r, r.Intn(300)))
	}
}

func TestSumsWithOneByteChanged(t *testing.T) {
	for _, body := range []string{"", "a", "hello", letters(300)} {
		sum := seal.Sum("key", 3, body)
		for i := range len(sum) {
			for by := 1; by < 256; by++ {
				wrongSum(t, "a byte changed", "key", 3, body, changed(sum, i, byte(by)))
			}
		}
	}
}

func TestSumsOfOtherLengths(t *testing.T) {
	for _, body := range []string{"", "a", "hello", letters(300)} {
		sum := seal.Sum("key", 3, body)
		wrongSum(t, "an empty sum", "key", 3, body, "")
		for n := 1; n <= len(sum); n++ {
			wrongSum(t, "bytes taken away from behind", "key", 3, body, sum[:len(sum)-n])
			wrongSum(t, "bytes taken away from ahead", "key", 3, body, sum[n:])
		}
		for _, n := range []int{1, 2, 31, 32, 33, 300, 1 << 20} {
			wrongSum(t, "bytes laid behind", "key", 3, body, sum+letters(n))
			wrongSum(t, "noughts laid behind", "key", 3, body, sum+noughts(n))
			wrongSum(t, "noughts laid ahead", "key", 3, body, noughts(n)+sum)
			wrongSum(t, "noughts", "key", 3, body, noughts(n))
		}
		wrongSum(t, "twice the sum", "key", 3, body, sum+sum)
		wrongSum(t, "the body", "key", 3, body, body)
	}
}

func TestSumsByAnotherBase(t *testing.T) {
	bases := basesAtEdges()
	for _, body := range []string{"", "hello"} {
		for i, base := range bases {
			sum := seal.Sum(base, 3, body)
			for j, other := range bases {
				if i != j {
					wrongSum(t, "another base", other, 3, body, sum)
				}
			}
		}
	}
}

func TestSumsForAnotherUse(t *testing.T) {
	uses := usesAtEdges()
	for _, body := range []string{"", "hello"} {
		for _, use := range uses {
			sum := seal.Sum("key", use, body)
			for _, other := range uses {
				if other != use {
					wrongSum(t, "another use", "key", other, body, sum)
				}
			}
		}
	}
}

func TestSumsOfAnotherBody(t *testing.T) {
	bodies := []string{"", "\x00", "\x00\x00", "a", "hello", "hellp", "hello\x00", "\x00hello", letters(64), letters(65)}
	for i, body := range bodies {
		sum := seal.Sum("key", 3, body)
		for j, other := range bodies {
			if i != j {
				wrongSum(t, "another body", "key", 3, other, sum)
			}
		}
	}
	body := letters(300)
	sum := seal.Sum("key", 3, body)
	for i := range len(body) {
		wrongSum(t, "a body with a byte changed", "key", 3, changed(body, i, 1), sum)
		wrongSum(t, "a body with a byte taken away", "key", 3, body[:i]+body[i+1:], sum)
	}
}

// TestSumsOfSealsAreOthers: what ends a seal is no sum of its text, nor of its body.
func TestSumsOfSealsAreOthers(t *testing.T) {
	for _, body := range []string{"", "hello", letters(300)} {
		s := sealed(t, "key", 3, "0123456789ab", body)
		end := len(s) - 32
		wrongSum(t, "a seal's sum", "key", 3, s[:end], s[end:])
		wrongSum(t, "a seal's sum", "key", 3, body, s[end:])
	}
}
