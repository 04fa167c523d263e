package carry_test

import (
	"math"
	"strings"
	"testing"

	"legate/api"
	"legate/term"
)

// keys are those that the texts of these tests are made with.
var keys = []api.Term{ann, web, session}

// tell is a text that can't be read, and why.
type tell struct {
	what, s string
	want    api.Errno
}

func refuse(t *testing.T, l []tell) {
	t.Helper()
	for _, c := range l {
		unpacksNot(t, c.what, c.s, "s", keys, c.want)
	}
}

// within are the ways in which a text stands in another one that is read.
func within() map[string]func(s string) string {
	return map[string]func(s string) string{
		"by itself":       func(s string) string { return s },
		"in a list":       func(s string) string { return node(4, s) },
		"in a list, amid": func(s string) string { return node(4, leaf(1, "a"), s, leaf(1, "b")) },
		"in a seal":       func(s string) string { return sealed(keyBytes(ann, "s"), 2, "0123456789ab", s) },
		"in a sum":        func(s string) string { return summed(keyBytes(session, "s"), 255, s) },
		"in all of these": func(s string) string {
			return node(4, sealed(keyBytes(web, "s"), 9, "0123456789ab", summed(keyBytes(ann, "s"), 1, node(4, s))))
		},
		"in a sealed seal": func(s string) string {
			return sealed(keyBytes(web, "s"), 9, "0123456789ab", sealed(keyBytes(ann, "s"), 2, "ba9876543210", s))
		},
	}
}

// refuseWithin refuses texts that are items, wherever they stand.
func refuseWithin(t *testing.T, l []tell) {
	t.Helper()
	for where, f := range within() {
		for _, c := range l {
			unpacksNot(t, c.what+", "+where, f(c.s), "s", keys, c.want)
		}
	}
}

// unread are texts that wire.Get does not read.
func unread() []tell {
	deep := "\x01\x00"
	for range 33 {
		deep = node(4, deep)
	}
	return []tell{
		{"nothing", "", api.ErrShort},
		{"a tag alone", "\x01", api.ErrShort},
		{"one byte less", "\x01\x03hi", api.ErrShort},
		{"a list with one byte less", "\x84\x05\x01\x02hi", api.ErrShort},
		{"too long", "\x01\x84\x80\x01" + strings.Repeat("a", 60000), api.ErrLong},
		{"too long, with what is ahead", leaf(1, strings.Repeat("a", 65533))[:60000], api.ErrLong},
		{"tag 0", "\x00\x00", api.ErrForm},
		{"tag 0 of a Node", "\x80\x00", api.ErrForm},
		{"a digit 0 ahead", "\x01\x80\x02hi", api.ErrForm},
		{"an item beyond its list", "\x84\x03\x01\x02hi", api.ErrForm},
		{"items in 33 others", deep, api.ErrDeep},
		{"one byte more", "\x01\x02hi\x00", api.ErrRest},
		{"two items", "\x01\x02hi\x01\x02hi", api.ErrRest},
		{"a list, and more", "\x84\x00\x84\x00", api.ErrRest},
	}
}

func TestWhatWireDoesNotRead(t *testing.T) {
	refuse(t, unread())
	for _, c := range unread() {
		unpacksNot(t, c.what+", without keys", c.s, "", nil, c.want)
	}
}

// TestBodiesThatWireDoesNotRead stand in seals: in a list or a sum such texts are no items.
func TestBodiesThatWireDoesNotRead(t *testing.T) {
	for _, c := range unread() {
		s := sealed(keyBytes(ann, "s"), 2, "0123456789ab", c.s)
		refuseWithin(t, []tell{{"a seal of " + c.what, s, c.want}})
		unpacksNot(t, c.what+", that nobody opens", s, "s", []api.Term{web, session}, api.ErrSeal)
	}
	for n := range 17 {
		s := sealed(keyBytes(ann, "s"), 2, "0123456789ab", "\x01")
		for range n {
			s = node(4, s)
		}
		refuse(t, []tell{{"a body that is short, in lists", s, api.ErrShort}})
	}
}

func TestBytesThatAreNoNames(t *testing.T) {
	var l []tell
	for _, s := range []string{"", "A", "a b", " ", "a\x00", "\xff", "é", "a_b", "key(ann 1)", strings.Repeat("a", 41), strings.Repeat("a", 300)} {
		l = append(l, tell{"bytes 1", leaf(1, s), api.ErrForm})
	}
	refuseWithin(t, l)
	for c := range 256 {
		s := string([]byte{byte(c)})
		if term.Name(s) {
			unpacks(t, "bytes 1", leaf(1, s), "s", nil, term.Of(s))
		} else {
			unpacksNot(t, "bytes 1", leaf(1, s), "s", nil, api.ErrForm)
		}
	}
}

func TestBytesThatAreNoNumbers(t *testing.T) {
	var l []tell
	for _, n := range []int{0, 1, 2, 4, 7, 9, 10, 16, 200} {
		l = append(l, tell{"bytes 2", leaf(2, strings.Repeat("\x00", n)), api.ErrForm}, tell{"bytes 2", leaf(2, strings.Repeat("\xff", n)), api.ErrForm})
	}
	refuseWithin(t, l)
	for _, n := range someNumbers() {
		unpacks(t, "bytes 2", leaf(2, number(n)), "s", nil, term.Num(n))
	}
	unpacks(t, "bytes 2", "\x02\x08\x80\x00\x00\x00\x00\x00\x00\x00", "s", nil, term.Num(math.MinInt))
	unpacks(t, "bytes 2", "\x02\x08\x01\x02\x03\x04\x05\x06\x07\x08", "s", nil, term.Num(0x0102030405060708))
}

func TestBytesThatAreNoKeys(t *testing.T) {
	b := keyBytes(ann, "s")
	l := []tell{{"bytes 3", leaf(3, ""), api.ErrKey}, {"bytes 3", leaf(3, "ann"), api.ErrKey}, {"twice", leaf(3, b+b), api.ErrKey}, {"a nought behind", leaf(3, b+"\x00"), api.ErrKey}, {"a nought ahead", leaf(3, "\x00"+b), api.ErrKey}, {"noughts", leaf(3, strings.Repeat("\x00", 32)), api.ErrKey}}
	for i := range b {
		l = append(l, tell{"a byte less", leaf(3, b[:i]), api.ErrKey}, tell{"a byte changed", leaf(3, b[:i]+string([]byte{b[i] ^ 1})+b[i+1:]), api.ErrKey})
	}
	for _, k := range fitNothing() {
		l = append(l, tell{"another key", leaf(3, keyBytes(k, "s")), api.ErrKey})
	}
	for _, secret := range []string{"", "S", "s ", "secret"} {
		l = append(l, tell{"another secret", leaf(3, keyBytes(ann, secret)), api.ErrKey})
	}
	refuseWithin(t, l)
}

func TestListsThatAreTooLong(t *testing.T) {
	for _, n := range []int{0, 1, 63, 64} {
		unpacks(t, "a list", spelt(numbers(n), "s"), "s", nil, numbers(n))
	}
	var l []tell
	for _, n := range []int{65, 66, 128, 129, 256, 320, 1000} {
		l = append(l, tell{"a list", spelt(numbers(n), "s"), api.ErrForm})
	}
	refuseWithin(t, l)
	full := node(4, spelt(numbers(64), "s"), spelt(numbers(64), "s"))
	unpacks(t, "two full ones", full, "s", nil, term.List(numbers(64), numbers(64)))
}

func TestSealsThatDoNotHold(t *testing.T) {
	base := keyBytes(ann, "s")
	s := sealText(base, 2, "0123456789ab", leaf(1, "a"))
	l := []tell{
		{"empty", leaf(5, ""), api.ErrForm},
		{"first byte 0, alone", leaf(5, "\x00"), api.ErrForm},
		{"first byte 0", leaf(5, "\x00"+s), api.ErrForm},
		{"first byte 0, though it opens for use 0", leaf(5, "\x00"+sealText(base, 0, "0123456789ab", leaf(1, "a"))), api.ErrForm},
		{"first byte alone", leaf(5, "\x02"), api.ErrSeal},
		{"43 bytes", leaf(5, "\x02"+s[:43]), api.ErrSeal},
		{"44 bytes", leaf(5, "\x02"+s[:44]), api.ErrSeal},
		{"one byte less", leaf(5, "\x02"+s[:len(s)-1]), api.ErrSeal},
		{"one byte more", leaf(5, "\x02"+s+"\x00"), api.ErrSeal},
		{"without the first byte", leaf(5, s), api.ErrSeal},
		{"another use", leaf(5, "\x03"+s), api.ErrSeal},
		{"the greatest use", leaf(5, "\xff"+s), api.ErrSeal},
		{"use 258", leaf(5, "\x02"+sealText(base, 258, "0123456789ab", leaf(1, "a"))), api.ErrSeal},
		{"another key", sealed(keyBytes(term.Key("ann", 2), "s"), 2, "0123456789ab", leaf(1, "a")), api.ErrSeal},
		{"another secret", sealed(keyBytes(ann, "S"), 2, "0123456789ab", leaf(1, "a")), api.ErrSeal},
		{"a key that is none", sealed(keyBytes(term.Key("ann", 0), "s"), 2, "0123456789ab", leaf(1, "a")), api.ErrSeal},
		{"an empty body", sealed(base, 2, "0123456789ab", ""), api.ErrShort},
	}
	for i := range s {
		l = append(l, tell{"a byte changed", leaf(5, "\x02"+s[:i]+string([]byte{s[i] ^ 0x80})+s[i+1:]), api.ErrSeal})
	}
	refuseWithin(t, l)
}

// TestLongestSeals: item 5 has room for 65532 bytes, which a seal may fill.
func TestLongestSeals(t *testing.T) {
	s := sealed(keyBytes(ann, "s"), 2, "0123456789ab", leaf(1, strings.Repeat("a", 65483)))
	refuse(t, []tell{{"a body that is no name", s, api.ErrForm}, {"one byte less", s[:65535], api.ErrShort}, {"one byte more", s + "a", api.ErrRest}})
	if len(s) != api.MaxText {
		t.Error(len(s))
	}
}

// TestErrorsOfWhatIsSealed are those of the body's own item.
func TestErrorsOfWhatIsSealed(t *testing.T) {
	for _, c := range []tell{
		{"no name", leaf(1, "A"), api.ErrForm},
		{"no number", leaf(2, "a"), api.ErrForm},
		{"no key", leaf(3, "a"), api.ErrKey},
		{"a seal that nobody opens", leaf(5, "\x01"), api.ErrSeal},
		{"a sum that is none", node(6), api.ErrForm},
		{"a sum that does not hold", node(6, leaf(2, number(1)), leaf(1, "a"), leaf(7, "")), api.ErrSum},
		{"another tag", leaf(9, ""), api.ErrForm},
	} {
		refuseWithin(t, []tell{c})
	}
}

// wrongSums are Nodes 6 that are not of the items that a sum is of.
func wrongSums() []tell {
	base := keyBytes(ann, "s")
	use, body := leaf(2, number(2)), leaf(1, "a")
	check := leaf(7, sumText(base, 2, body))
	l := []tell{
		{"no items", node(6), api.ErrForm},
		{"one item", node(6, use), api.ErrForm},
		{"two items", node(6, use, body), api.ErrForm},
		{"two items, the last ones", node(6, body, check), api.ErrForm},
		{"four items", node(6, use, body, check, check), api.ErrForm},
		{"four items, a body more", node(6, use, body, body, check), api.ErrForm},
		{"another order", node(6, check, body, use), api.ErrForm},
		{"body ahead", node(6, body, use, check), api.ErrForm},
		{"check ahead of the body", node(6, use, check, body), api.ErrForm},
		{"first a name", node(6, leaf(1, "a"), body, check), api.ErrForm},
		{"first 8 bytes of tag 1", node(6, leaf(1, number(2)), body, check), api.ErrForm},
		{"first 8 bytes of tag 3", node(6, leaf(3, number(2)), body, check), api.ErrForm},
		{"first a Node 2", node(6, node(2, leaf(2, number(2)[:6])), body, check), api.ErrForm},
		{"first an empty Node 2", node(6, node(2), body, check), api.ErrForm},
		{"first a list", node(6, node(4, use), body, check), api.ErrForm},
		{"first no bytes", node(6, leaf(2, ""), body, check), api.ErrForm},
		{"first one byte", node(6, leaf(2, "\x02"), body, check), api.ErrForm},
		{"first 7 bytes", node(6, leaf(2, number(2)[1:]), body, check), api.ErrForm},
		{"first 9 bytes", node(6, leaf(2, "\x00"+number(2)), body, check), api.ErrForm},
		{"third a number", node(6, use, body, use), api.ErrForm},
		{"third a Node 7", node(6, use, body, node(7)), api.ErrForm},
		{"third a Node 7 of a 7", node(6, use, body, node(7, check)), api.ErrForm},
		{"third of tag 3", node(6, use, body, leaf(3, sumText(base, 2, body))), api.ErrForm},
		{"third of tag 6", node(6, use, body, leaf(6, sumText(base, 2, body))), api.ErrForm},
		{"third of tag 8", node(6, use, body, leaf(8, sumText(base, 2, body))), api.ErrForm},
	}
	for _, n := range []int{0, 256, 257, 258, 511, 512, 1 << 32, 1<<32 + 2, -1, -2, -254, -256, math.MaxInt, math.MinInt, math.MinInt + 2} {
		l = append(l, tell{"first a number of another use", summed(base, n, body), api.ErrForm})
	}
	return l
}

func TestSumsThatAreNone(t *testing.T) {
	refuseWithin(t, wrongSums())
	for _, use := range []int{1, 2, 254, 255} {
		unpacks(t, "a sum", summed(keyBytes(web, "s"), use, leaf(1, "a")), "s", keys, term.Sum(web, use, term.Of("a")))
	}
}

func TestSumsThatDoNotHold(t *testing.T) {
	base := keyBytes(ann, "s")
	use, body := leaf(2, number(2)), leaf(1, "a")
	sum := sumText(base, 2, body)
	l := []tell{
		{"no bytes", node(6, use, body, leaf(7, "")), api.ErrSum},
		{"one byte less", node(6, use, body, leaf(7, sum[:31])), api.ErrSum},
		{"one byte more", node(6, use, body, leaf(7, sum+"\x00")), api.ErrSum},
		{"twice", node(6, use, body, leaf(7, sum+sum)), api.ErrSum},
		{"another use", node(6, leaf(2, number(3)), body, leaf(7, sum)), api.ErrSum},
		{"another body", node(6, use, leaf(1, "b"), leaf(7, sum)), api.ErrSum},
		{"the body's bytes alone", node(6, use, body, leaf(7, sumText(base, 2, "a"))), api.ErrSum},
		{"another key", summed(keyBytes(term.Key("", 1), "s"), 2, body), api.ErrSum},
		{"another secret", summed(keyBytes(ann, "S"), 2, body), api.ErrSum},
		{"a key that is none", summed(keyBytes(term.Key("ann", 0), "s"), 2, body), api.ErrSum},
		{"a Mac by another label", node(6, use, body, leaf(7, mac(keyOfUse(base, 2, "sum"), body))), api.ErrSum},
	}
	for i := range sum {
		l = append(l, tell{"a byte changed", node(6, use, body, leaf(7, sum[:i]+string([]byte{sum[i] ^ 1})+sum[i+1:])), api.ErrSum})
	}
	refuseWithin(t, l)
}

// TestOtherTags: those of bytes as Nodes, those of Nodes as bytes, and those that no term has.
func TestOtherTags(t *testing.T) {
	base := keyBytes(ann, "s")
	texts := []string{"", "a", number(1), base, "\x02" + sealText(base, 2, "0123456789ab", leaf(1, "a")), sumText(base, 2, leaf(1, "a")), leaf(1, "a")}
	lists := [][]string{nil, {leaf(1, "a")}, {leaf(2, number(1))}, {leaf(2, number(2)), leaf(1, "a"), leaf(7, sumText(base, 2, leaf(1, "a")))}}
	var l []tell
	for tag := 1; tag < 128; tag++ {
		if tag == 4 || tag == 6 || tag > 6 {
			for _, s := range texts {
				l = append(l, tell{"bytes", leaf(byte(tag), s), api.ErrForm})
			}
		}
		if tag != 4 && tag != 6 {
			for _, x := range lists {
				l = append(l, tell{"a Node", node(byte(tag), x...), api.ErrForm})
			}
		}
	}
	refuseWithin(t, l)
}
