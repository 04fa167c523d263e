package seal_test

import (
	"crypto/sha256"
	"math"
	"math/rand"
	"slices"
	"strings"
	"testing"

	"legate/api"
	"legate/derive"
	"legate/hmac"
	"legate/seal"
)

// shut holds that a text is not opened, for just that error.
func shut(t *testing.T, what, base string, use int, s string, want api.Errno) {
	t.Helper()
	if body, e := seal.Open(base, use, s); body != "" || e != want {
		t.Errorf("%s (%d bytes): %d bytes, %v, not %v", what, len(s), len(body), e, want)
	}
}

// atLength is what the chapter says of a text that no right sum ends.
func atLength(n int) api.Errno {
	if n < 44 {
		return api.ErrShort
	}
	if n > 65580 {
		return api.ErrLong
	}
	return api.ErrSeal
}

// summed is a text with the right sum behind it, of whatever length.
func summed(base string, use int, s string) string {
	return s + hmac.Mac(derive.Sum(base, use), s)
}

func TestTextsThatWereNeverSealed(t *testing.T) {
	lengths := []int{300, 777, 4097, 65535, 65536, 65537, 65579, 65580, 65581, 65582, 65600, 131072, 1 << 20, 1 << 24}
	for n := range 100 {
		lengths = append(lengths, n)
	}
	for _, n := range lengths {
		for _, s := range []string{letters(n), noughts(n), strings.Repeat("\xff", n)} {
			shut(t, "never sealed", "key", 3, s, atLength(n))
		}
	}
	for _, base := range basesAtEdges() {
		for _, use := range usesAtEdges() {
			for _, n := range []int{0, 1, 11, 12, 32, 43, 44, 45, 300} {
				shut(t, "never sealed", base, use, letters(n), atLength(n))
			}
			shut(t, "never sealed", base, use, letters(65581), api.ErrLong)
		}
	}
}

// TestLengthsAreToldFirst: of a text that is too short or too long, a right sum tells nothing.
func TestLengthsAreToldFirst(t *testing.T) {
	for _, base := range []string{"", "key", letters(65)} {
		for _, use := range []int{0, 3, -1, math.MaxInt, math.MinInt} {
			for n := range 12 {
				shut(t, "with a right sum", base, use, summed(base, use, letters(n)), api.ErrShort)
			}
		}
		for _, n := range []int{1, 2, 16, 1000, longest} {
			shut(t, "with a right sum", base, 3, summed(base, 3, letters(12+longest+n)), api.ErrLong)
			shut(t, "as it would be sealed", base, 3, spelt(base, 3, "0123456789ab", letters(longest+n)), api.ErrLong)
		}
	}
}

// TestRightSumsAtTheEdges: of the shortest and of the longest text they open it, a wrong one is ErrSeal there.
func TestRightSumsAtTheEdges(t *testing.T) {
	for _, n := range []int{44, 45, 65579, 65580} {
		s := summed("key", 3, letters(n-32))
		want := libraryCipher(t, libraryKey("key", 3, "cipher")[:16], s[:12], s[12:n-32])
		if body, e := seal.Open("key", 3, s); len(s) != n || body != want || e != api.OK {
			t.Errorf("%d bytes: %d bytes, %v", n, len(body), e)
		}
		for _, i := range []int{0, 11, n - 33, n - 32, n - 1} {
			shut(t, "a byte changed", "key", 3, changed(s, i, 1), api.ErrSeal)
		}
	}
}

// changed is a text with one of its bytes changed.
func changed(s string, i int, by byte) string {
	b := []byte(s)
	b[i] ^= by
	return string(b)
}

// TestOneByteChanged goes through each place of the nonce, of the body and of the sum.
func TestOneByteChanged(t *testing.T) {
	for _, body := range []string{"", "a", "hello", letters(15), letters(16), letters(17), noughts(40), letters(300)} {
		for _, base := range []string{"", "key", letters(65)} {
			s := sealed(t, base, 3, "0123456789ab", body)
			for i := range len(s) {
				for _, by := range []byte{1, 0x80, 0xff} {
					shut(t, "a byte changed", base, 3, changed(s, i, by), api.ErrSeal)
				}
			}
		}
	}
	s := sealed(t, "key", 3, "0123456789ab", "hello")
	for i := range 8 * len(s) {
		shut(t, "a bit changed", "key", 3, changed(s, i/8, 1<<(i%8)), api.ErrSeal)
	}
	s = sealed(t, "key", 3, "0123456789ab", letters(longest))
	for _, i := range []int{0, 11, 12, 13, 30000, longest + 11, longest + 12, longest + 43} {
		shut(t, "a byte changed", "key", 3, changed(s, i, 1), api.ErrSeal)
	}
}

// TestBytesThatChangedPlaces: the nonce, the body and the sum each have their own.
func TestBytesThatChangedPlaces(t *testing.T) {
	s := sealed(t, "key", 3, "0123456789ab", letters(20))
	nonce, body, sum := s[:12], s[12:32], s[32:]
	for _, other := range []string{nonce + sum + body, body + nonce + sum, sum + nonce + body, sum + body + nonce, body + sum + nonce} {
		shut(t, "changed places", "key", 3, other, api.ErrSeal)
	}
	for i := range len(s) - 1 {
		if s[i] != s[i+1] {
			shut(t, "two bytes changed places", "key", 3, s[:i]+s[i+1:i+2]+s[i:i+1]+s[i+2:], api.ErrSeal)
		}
	}
	other := sealed(t, "key", 3, "0123456789ab", letters(19)+"!")
	shut(t, "another one's sum", "key", 3, s[:32]+other[32:], api.ErrSeal)
	shut(t, "another one's nonce", "key", 3, "0123456789ac"+s[12:], api.ErrSeal)
}

func TestBytesTakenAway(t *testing.T) {
	for _, body := range []string{"", "a", "hello", letters(16), letters(60), noughts(60)} {
		s := sealed(t, "key", 3, "0123456789ab", body)
		for n := 1; n <= len(s); n++ {
			shut(t, "taken away from behind", "key", 3, s[:len(s)-n], atLength(len(s)-n))
			shut(t, "taken away from ahead", "key", 3, s[n:], atLength(len(s)-n))
		}
		for i := range len(s) {
			shut(t, "taken away from between", "key", 3, s[:i]+s[i+1:], atLength(len(s)-1))
		}
	}
	long := sealed(t, "key", 3, "0123456789ab", letters(longest))
	for _, n := range []int{1, 2, 32, 44, 30000} {
		shut(t, "taken away from behind", "key", 3, long[:len(long)-n], api.ErrSeal)
		shut(t, "taken away from ahead", "key", 3, long[n:], api.ErrSeal)
	}
}

func TestBytesLaidBehind(t *testing.T) {
	for _, body := range []string{"", "a", "hello", letters(16), letters(300)} {
		s := sealed(t, "key", 3, "0123456789ab", body)
		for _, n := range []int{1, 2, 12, 16, 32, 44, 300} {
			for _, more := range []string{letters(n), noughts(n)} {
				shut(t, "laid behind", "key", 3, s+more, api.ErrSeal)
				shut(t, "laid ahead", "key", 3, more+s, api.ErrSeal)
				shut(t, "laid between", "key", 3, s[:12]+more+s[12:], api.ErrSeal)
			}
		}
		shut(t, "twice", "key", 3, s+s, api.ErrSeal)
		shut(t, "laid behind, up to the longest", "key", 3, s+noughts(65580-len(s)), api.ErrSeal)
		shut(t, "laid behind, beyond the longest", "key", 3, s+noughts(65581-len(s)), api.ErrLong)
	}
	long := sealed(t, "key", 3, "0123456789ab", letters(longest))
	shut(t, "laid behind the longest", "key", 3, long+"\x00", api.ErrLong)
	shut(t, "laid ahead of the longest", "key", 3, "\x00"+long, api.ErrLong)
}

func TestAnotherBase(t *testing.T) {
	bases := basesAtEdges()
	for _, body := range []string{"", "hello", letters(33)} {
		for i, base := range bases {
			s := sealed(t, base, 3, "0123456789ab", body)
			for j, other := range bases {
				if i != j {
					shut(t, "another base", other, 3, s, api.ErrSeal)
				}
			}
		}
	}
	for _, n := range []int{1, 32, 64, 65, 200} {
		base := letters(n)
		s := sealed(t, base, 3, "0123456789ab", "hello")
		for i := range n {
			shut(t, "a base with a byte changed", changed(base, i, 1), 3, s, api.ErrSeal)
		}
	}
	long := sealed(t, "key", 3, "0123456789ab", letters(longest))
	shut(t, "another base", "kez", 3, long, api.ErrSeal)
}

// TestBasesAreKeysOfHmac: those that are the same key there open what the other one sealed.
func TestBasesAreKeysOfHmac(t *testing.T) {
	long := sha256.Sum256([]byte(letters(65)))
	for _, c := range [][2]string{{"key", "key\x00"}, {"key", "key" + noughts(61)}, {"", noughts(64)}, {letters(65), string(long[:])}} {
		s := sealed(t, c[0], 3, "0123456789ab", "hello")
		if body, e := seal.Open(c[1], 3, s); body != "hello" || e != api.OK {
			t.Errorf("%x and %x: %q %v", c[0], c[1], body, e)
		}
	}
	// From 65 bytes on a nought is one of the bytes that are summed.
	shut(t, "a nought behind 64 bytes", letters(64)+"\x00", 3, sealed(t, letters(64), 3, "0123456789ab", "hello"), api.ErrSeal)
	shut(t, "65 noughts", noughts(65), 3, sealed(t, "", 3, "0123456789ab", "hello"), api.ErrSeal)
}

func TestAnotherUse(t *testing.T) {
	uses := usesAtEdges()
	for _, body := range []string{"", "hello", letters(33)} {
		for _, use := range uses {
			s := sealed(t, "key", use, "0123456789ab", body)
			for _, other := range uses {
				if other != use {
					shut(t, "another use", "key", other, s, api.ErrSeal)
				}
			}
			for i := range 64 {
				shut(t, "a use with a bit changed", "key", use^1<<i, s, api.ErrSeal)
			}
		}
	}
	long := sealed(t, "key", 3, "0123456789ab", letters(longest))
	shut(t, "another use", "key", 4, long, api.ErrSeal)
}

// TestSumsOfOtherKeys: what is summed by a key that is none of a seal's sum is not opened.
func TestSumsOfOtherKeys(t *testing.T) {
	s := "0123456789ab" + letters(20)
	for _, k := range []string{"key", derive.Cipher("key", 3), derive.Key("key", 3, "check"), derive.Key("key", 3, "cipher"), derive.Key("key", 3, ""), ""} {
		shut(t, "summed by another key", "key", 3, s+hmac.Mac(k, s), api.ErrSeal)
	}
	shut(t, "with a body's sum", "key", 3, s+seal.Sum("key", 3, s), api.ErrSeal)
	right := derive.Sum("key", 3)
	shut(t, "summed without the nonce", "key", 3, s+hmac.Mac(right, s[12:]), api.ErrSeal)
	shut(t, "summed without the body", "key", 3, s+hmac.Mac(right, s[:12]), api.ErrSeal)
	plain := sealed(t, "key", 3, "0123456789ab", "hello")
	shut(t, "summed ahead of ciphering", "key", 3, plain[:17]+hmac.Mac(right, "0123456789abhello"), api.ErrSeal)
}

func TestTextsByChance(t *testing.T) {
	r := rand.New(rand.NewSource(2))
	for range 2000 {
		base, use, s := byChance(r, r.Intn(140)), int(r.Uint64()), byChance(r, r.Intn(400))
		shut(t, "by chance", base, use, s, atLength(len(s)))
	}
}

// TestChangedByChance: some bytes of what was sealed are changed at once.
func TestChangedByChance(t *testing.T) {
	r := rand.New(rand.NewSource(3))
	for range 2000 {
		s := sealed(t, "key", 3, byChance(r, 12), byChance(r, r.Intn(100)))
		b := []byte(s)
		for range 1 + r.Intn(5) {
			b[r.Intn(len(b))] = byte(r.Intn(256))
		}
		if !slices.Equal(b, []byte(s)) {
			shut(t, "changed by chance", "key", 3, string(b), api.ErrSeal)
		}
	}
}

// TestSealedTwice: what is sealed is a body as any other one.
func TestSealedTwice(t *testing.T) {
	for _, body := range bodiesAtEdges() {
		once := sealed(t, "key", 3, "0123456789ab", body)
		hold(t, "key", 3, "0123456789ab", once)
		hold(t, "other", 4, "ba9876543210", once)
	}
}
