package derive_test

import (
	librarys "crypto/hmac"
	"crypto/sha256"
	"encoding/binary"
	"encoding/hex"
	"math"
	"math/big"
	"math/rand"
	"strings"
	"sync"
	"testing"

	"legate/derive"
	"legate/hmac"
)

// raw is bytes that are written in hexadecimal digits, with spaces between as one likes.
func raw(t *testing.T, s string) string {
	t.Helper()
	b, err := hex.DecodeString(strings.ReplaceAll(s, " ", ""))
	if err != nil {
		t.Fatal(err)
	}
	return string(b)
}

func byChance(r *rand.Rand, n int) string {
	b := make([]byte, n)
	r.Read(b)
	return string(b)
}

// letters are n bytes, of which those beside each other are unlike.
func letters(n int) string {
	return strings.Repeat("abcdefghijklmnopqrstuvwxyz", n/26+1)[:n]
}

func noughts(n int) string { return strings.Repeat("\x00", n) }

// library is the HMAC of the library, that is not written here.
func library(key, s string) string {
	h := librarys.New(sha256.New, []byte(key))
	h.Write([]byte(s))
	return string(h.Sum(nil))
}

// slowNumber is the document's sentence of numbers: what is left of n, counted round at 2^64, as digits to the base 256.
func slowNumber(n int) string {
	round := new(big.Int).Lsh(big.NewInt(1), 64)
	left := new(big.Int).Mod(big.NewInt(int64(n)), round)
	var b [8]byte
	for i := 7; i >= 0; i-- {
		digit := new(big.Int)
		left.DivMod(left, big.NewInt(256), digit)
		b[i] = byte(digit.Int64())
	}
	return string(b[:])
}

// numbersAtEdges are those that the document's sentence of numbers has edges at.
func numbersAtEdges() []int {
	l := []int{0, 1, 2, 127, 128, 254, 255, 256, 257, 258, 32767, 32768, 65535, 65536, 65537, 1<<24 - 1, 1 << 24,
		math.MaxInt32, math.MaxInt32 + 1, math.MaxUint32, math.MaxUint32 + 1, 1<<40 - 1, 1 << 40, 1099511627776,
		1<<48 + 5, 1<<56 - 1, 1 << 56, 0x0102030405060708, math.MaxInt - 1, math.MaxInt}
	for _, n := range l {
		l = append(l, -n)
	}
	return append(l, math.MinInt, math.MinInt+1, -129, -257, -65537)
}

// textsAtEdges are of all lengths at which a key of HMAC, or a text, is another thing: with bytes 00, and with bytes that are no text.
func textsAtEdges() []string {
	l := []string{"", "a", "\x00", "\x00\x00", "\xff", "\x80\xfe", "base", "l", "cipher", "sum", "long", "session", "cipher\x00", "\x00sum",
		"long\x00", "session\x00", "a\x00b", "ein Schlüssel", "\xed\xa0\x80", "\xc3", "\x00\x00\x00\x00\x00\x00\x00\x01"}
	for _, n := range []int{31, 32, 33, 55, 56, 63, 64, 65, 66, 127, 128, 129, 300, 777} {
		l = append(l, letters(n), noughts(n), strings.Repeat("\xff", n))
	}
	return l
}

// check holds an answer against the HMAC of a text, ours and the library's.
func check(t *testing.T, what, got, key, text string) {
	t.Helper()
	if len(got) != 32 || got != hmac.Mac(key, text) || got != library(key, text) {
		t.Errorf("%s, by %x: %x is not of the text %x", what, key, got, text)
	}
}

func TestNumbersOfTheTests(t *testing.T) {
	for _, n := range numbersAtEdges() {
		if got := slowNumber(n); got != string(binary.BigEndian.AppendUint64(nil, uint64(n))) {
			t.Errorf("%d: %x", n, got)
		}
	}
}

// TestExample: Cipher has 16 bytes, the others 32.
func TestExample(t *testing.T) {
	for _, s := range textsAtEdges() {
		for _, n := range []int{0, 1, 2, 7, -1, math.MaxInt, math.MinInt} {
			if got := derive.Cipher(s, n); len(got) != 16 {
				t.Errorf("Cipher(%q, %d): %x", s, n, got)
			}
			for _, got := range []string{derive.Key(s, n, "l"), derive.Key("b", n, s), derive.Sum(s, n), derive.Long(s, n, "s"), derive.Long("ann", n, s), derive.Session(n, s)} {
				if len(got) != 32 {
					t.Errorf("%q and %d: %x", s, n, got)
				}
			}
		}
	}
}

// TestKnownKeys: the texts are spelt byte by byte.
func TestKnownKeys(t *testing.T) {
	for _, c := range []struct {
		base, label string
		use         int
		text        string
	}{
		{"base", "l", 258, "6c 00 0000000000000102"},
		{"base", "", -1, "00 ffffffffffffffff"},
		{"", "", 0, "00 0000000000000000"},
		{"base", "cipher", 2, "636970686572 00 0000000000000002"},
		{"base", "sum", 2, "73756d 00 0000000000000002"},
		{"base", "l", 0, "6c 00 0000000000000000"},
		{"base", "l", 1, "6c 00 0000000000000001"},
		{"base", "l", 255, "6c 00 00000000000000ff"},
		{"base", "l", 256, "6c 00 0000000000000100"},
		{"base", "l", 65535, "6c 00 000000000000ffff"},
		{"base", "l", 65536, "6c 00 0000000000010000"},
		{"base", "l", 1 << 32, "6c 00 0000000100000000"},
		{"base", "l", 0x0102030405060708, "6c 00 0102030405060708"},
		{"base", "l", math.MaxInt, "6c 00 7fffffffffffffff"},
		{"base", "l", math.MinInt, "6c 00 8000000000000000"},
		{"base", "l", -2, "6c 00 fffffffffffffffe"},
		{"base", "l", -256, "6c 00 ffffffffffffff00"},
		{"base", "l", -65536, "6c 00 ffffffffffff0000"},
		{"base", "a\x00b", 7, "610062 00 0000000000000007"},
		{"base", "\x00", 7, "00 00 0000000000000007"},
		{"\x00\xff", "\xff\xfe", 7, "fffe 00 0000000000000007"},
	} {
		check(t, "Key", derive.Key(c.base, c.use, c.label), c.base, raw(t, c.text))
	}
}

func TestKeyAtEachNumber(t *testing.T) {
	for _, n := range numbersAtEdges() {
		for _, label := range []string{"", "l", "cipher", "a\x00b", letters(64)} {
			check(t, "Key", derive.Key("base", n, label), "base", label+"\x00"+slowNumber(n))
		}
	}
	for n := -70000; n < 70000; n += 97 {
		check(t, "Key", derive.Key("base", n, "l"), "base", "l\x00"+slowNumber(n))
	}
}

func TestKeyAtEachText(t *testing.T) {
	for _, base := range textsAtEdges() {
		for _, label := range textsAtEdges() {
			check(t, "Key", derive.Key(base, 258, label), base, label+"\x00"+slowNumber(258))
		}
	}
}

func TestKeyByChance(t *testing.T) {
	r := rand.New(rand.NewSource(1))
	for range 3000 {
		base, label, n := byChance(r, r.Intn(140)), byChance(r, r.Intn(140)), int(r.Uint64())
		check(t, "Key", derive.Key(base, n, label), base, label+"\x00"+slowNumber(n))
	}
}

// TestNumbersOfOneBit: each bit of a number counts, at its own place.
func TestNumbersOfOneBit(t *testing.T) {
	for i := range 64 {
		var b [8]byte
		b[i/8] = 0x80 >> (i % 8)
		n := int(uint64(1) << (63 - i))
		check(t, "Key", derive.Key("base", n, "l"), "base", "l\x00"+string(b[:]))
		check(t, "Long", derive.Long("ann", n, "s"), "s", "long\x00"+string(b[:])+"ann")
		check(t, "Session", derive.Session(n, "s"), "s", "session\x00"+string(b[:]))
	}
}

func TestCipherAndSum(t *testing.T) {
	hold := func(base string, n int) {
		t.Helper()
		c, s := derive.Cipher(base, n), derive.Sum(base, n)
		if c != derive.Key(base, n, "cipher")[:16] || c != library(base, "cipher\x00"+slowNumber(n))[:16] {
			t.Errorf("Cipher(%q, %d): %x", base, n, c)
		}
		if s != derive.Key(base, n, "sum") {
			t.Errorf("Sum(%q, %d): %x", base, n, s)
		}
		check(t, "Sum", s, base, "sum\x00"+slowNumber(n))
	}
	for _, base := range textsAtEdges() {
		for _, n := range numbersAtEdges() {
			hold(base, n)
		}
	}
	r := rand.New(rand.NewSource(2))
	for range 1000 {
		hold(byChance(r, r.Intn(140)), int(r.Uint64()))
	}
}

// TestBasesAreKeysOfHmac: what holds of a key there holds of a base and of a secret.
func TestBasesAreKeysOfHmac(t *testing.T) {
	for n := range 64 {
		short, full := letters(n), letters(n)+noughts(64-n)
		if derive.Key(short, 3, "l") != derive.Key(full, 3, "l") || derive.Cipher(short, 3) != derive.Cipher(full, 3) || derive.Sum(short, 3) != derive.Sum(full, 3) ||
			derive.Long("ann", 3, short) != derive.Long("ann", 3, full) || derive.Session(3, short) != derive.Session(3, full) {
			t.Errorf("%d bytes, and noughts behind them", n)
		}
	}
	// From 65 bytes on a nought is one of the bytes that are summed.
	if derive.Key(letters(64), 3, "l") == derive.Key(letters(64)+"\x00", 3, "l") || derive.Session(3, letters(64)) == derive.Session(3, letters(64)+"\x00") {
		t.Error("64 bytes, and a nought behind them")
	}
}

// TestOfItsArgumentsAlone: what is asked at the same time, or in another order, is answered the same.
func TestOfItsArgumentsAlone(t *testing.T) {
	ask := func() string {
		var b strings.Builder
		for _, n := range []int{0, 1, 7, -1, math.MaxInt} {
			for _, s := range []string{"", "a", letters(65)} {
				b.WriteString(derive.Key(s, n, s) + derive.Cipher(s, n) + derive.Sum(s, n) + derive.Long(s, n, s) + derive.Session(n, s))
			}
		}
		return b.String()
	}
	want := ask()
	var group sync.WaitGroup
	got := make([]string, 8)
	for i := range got {
		group.Go(func() { got[i] = ask() })
	}
	group.Wait()
	for i := range got {
		if got[i] != want {
			t.Errorf("%d: another answer", i)
		}
	}
}

func TestLongTexts(t *testing.T) {
	long := letters(1 << 20)
	check(t, "Key", derive.Key(long, 1, "l"), long, "l\x00"+slowNumber(1))
	check(t, "Key", derive.Key("base", 1, long), "base", long+"\x00"+slowNumber(1))
	check(t, "Long", derive.Long(long, 1, "s"), "s", "long\x00"+slowNumber(1)+long)
	check(t, "Long", derive.Long("ann", 1, long), long, "long\x00"+slowNumber(1)+"ann")
	check(t, "Session", derive.Session(1, long), long, "session\x00"+slowNumber(1))
}

func BenchmarkKey(b *testing.B) {
	base := letters(32)
	for b.Loop() {
		derive.Key(base, 2, "cipher")
	}
}
