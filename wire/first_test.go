package wire_test

import (
	"testing"

	"legate/api"
	"legate/wire"
)

type wrong struct {
	name string
	s    string
	e    api.Errno
}

func refuse(t *testing.T, l []wrong) {
	t.Helper()
	for _, c := range l {
		if x, n, e := wire.First(c.s); e != c.e || n != 0 || !isZero(x) {
			t.Errorf("%s: First(%.40q) %d %v, not %v", c.name, c.s, n, e, c.e)
		}
		if x, e := wire.Get(c.s); e != c.e || !isZero(x) {
			t.Errorf("%s: Get(%.40q) %v, not %v", c.name, c.s, e, c.e)
		}
	}
}

func TestShort(t *testing.T) {
	refuse(t, []wrong{
		{"nothing", "", api.ErrShort},
		{"a tag alone", "\x01", api.ErrShort},
		{"a Node's tag alone", "\x81", api.ErrShort},
		{"a digit alone that is not the last", "\x01\x81", api.ErrShort},
		{"the greatest digits that may go on", "\x01\x84\x80", api.ErrShort},
		{"a length alone", "\x01\x01", api.ErrShort},
		{"one byte less", "\x01\x03ab", api.ErrShort},
		{"one byte less than 128", "\x01\x81\x00" + letters(127), api.ErrShort},
		{"a Node with one byte less", "\x81\x03\x01\x00", api.ErrShort},
		{"the greatest length", "\x01\x83\xff\x7c", api.ErrShort},
		{"the greatest length but one byte", "\x01\x83\xff\x7c" + letters(65531), api.ErrShort},
	})
}

func TestForm(t *testing.T) {
	refuse(t, []wrong{
		{"tag 0", "\x00\x00", api.ErrForm},
		{"tag 0 alone", "\x00", api.ErrForm},
		{"tag 0 of a Node", "\x80\x00", api.ErrForm},
		{"tag 0 in a Node", "\x81\x02\x00\x00", api.ErrForm},
		{"a digit 0 ahead", "\x01\x80\x01a", api.ErrForm},
		{"a length of 0 in two digits", "\x01\x80\x00", api.ErrForm},
		{"a digit 0 ahead, and no more", "\x01\x80", api.ErrForm},
		{"digits 0 ahead", "\x01\x80\x80\x80\x80\x80\x80\x80\x80\x80\x80\x01a", api.ErrForm},
		{"a digit 0 ahead in a Node", "\x81\x04\x01\x80\x01a", api.ErrForm},
		{"a Node that ends behind a tag", "\x81\x01\x01", api.ErrForm},
		{"a Node that ends in a length", "\x81\x02\x01\x81", api.ErrForm},
		{"a Node that ends in bytes", "\x81\x03\x01\x02a", api.ErrForm},
		{"a Node that ends, where the text goes on", "\x81\x03\x01\x02aa", api.ErrForm},
		{"a Node that ends behind a tag, where the text goes on", "\x81\x01\x01\x00", api.ErrForm},
		{"a Node in a Node that goes beyond", "\x81\x02\x82\x02\x01\x00", api.ErrForm},
		{"an item that goes beyond its Node, not the outer one", "\x81\x06\x82\x02\x01\x02ab", api.ErrForm},
		{"the second one", "\x81\x04\x01\x00\x02\x01", api.ErrForm},
	})
}

func TestLong(t *testing.T) {
	refuse(t, []wrong{
		{"65537", "\x01\x84\x80\x01", api.ErrLong},
		{"65537, with its bytes", "\x01\x84\x80\x01" + letters(65537), api.ErrLong},
		{"65536", "\x01\x84\x80\x00" + letters(65536), api.ErrLong},
		{"65533, with its bytes", "\x01\x83\xff\x7d" + letters(65533), api.ErrLong},
		{"65533, in a Node, with its bytes", "\x81\x83\xff\x7d" + letters(65533), api.ErrLong},
		{"digits without end", "\x01\xff\xff\xff\xff\xff\xff\xff\xff\xff\xff\xff\xff", api.ErrLong},
		{"a number that would go round to 0", "\x01\x82\x80\x80\x80\x80\x80\x80\x80\x80\x00", api.ErrLong},
		{"a number that would go round to 1", "\x01\x82\x80\x80\x80\x80\x80\x80\x80\x80\x01a", api.ErrLong},
	})
}

func TestLongAsSoonAsTheDigitsTell(t *testing.T) {
	refuse(t, []wrong{
		{"513 times 128 at least", "\x01\x84\x81", api.ErrLong},
		{"16383 times 128 at least", "\x01\xff\xff", api.ErrLong},
		{"65536 times 128 at least", "\x01\x84\x80\x80", api.ErrLong},
		{"512 times 128 at least", "\x01\x84\x80", api.ErrShort},
		{"in a Node", "\x81\x03\x01\xff\xff", api.ErrLong},
		{"in a Node, that might be 65536", "\x81\x03\x01\x84\x80", api.ErrForm},
	})
}

func TestLongWithWhatIsAhead(t *testing.T) {
	refuse(t, []wrong{
		{"6 bytes and 65531", "\x81\x04\x01\x83\xff\x7b", api.ErrLong},
		{"6 bytes and 65530", "\x81\x04\x01\x83\xff\x7a", api.ErrForm},
		{"8 bytes and 65529", "\x81\x06\x02\x00\x01\x83\xff\x79", api.ErrLong},
		{"8 bytes and 65528", "\x81\x06\x02\x00\x01\x83\xff\x78", api.ErrForm},
		{"10 bytes and 65527, in two Nodes", "\x81\x08\x82\x06\x02\x00\x01\x83\xff\x77", api.ErrLong},
		{"10 bytes and 65526, in two Nodes", "\x81\x08\x82\x06\x02\x00\x01\x83\xff\x76", api.ErrForm},
		{"a full Node whose item is one byte too long", "\x81\x83\xff\x7c\x01\x83\xff\x79" + letters(65528), api.ErrLong},
		{"a full Node whose second item is two bytes too long", "\x81\x83\xff\x7c\x02\x83\xff\x76" + letters(65526) + "\x03\x02", api.ErrLong},
		{"a Node of one byte less, the same", "\x81\x83\xff\x7b\x02\x83\xff\x76" + letters(65526) + "\x03", api.ErrForm},
	})
}

func TestDeep(t *testing.T) {
	refuse(t, []wrong{
		{"in 33 others", around("\x02\x00", 33), api.ErrDeep},
		{"a Node in 33 others", around("\x82\x00", 33), api.ErrDeep},
		{"in 40 others", around("\x02\x00", 40), api.ErrDeep},
		{"in 33 others, behind one that is not so deep", around("\x02\x00"+around("\x02\x00", 1), 32), api.ErrDeep},
	})
	for _, n := range []int{0, 1, 31, 32} {
		if x, e := wire.Get(around("\x02\x00", n)); e != api.OK || !wire.Same(x, nest(leaf(2, ""), n)) {
			t.Error(n, e)
		}
	}
}

func TestWhichErrorComesFirst(t *testing.T) {
	refuse(t, []wrong{
		{"tag 0, and short", "\x00", api.ErrForm},
		{"tag 0, and long", "\x00\x84\x80\x01", api.ErrForm},
		{"a digit 0 ahead, and long", "\x01\x80\xff\xff\xff", api.ErrForm},
		{"long, and short", "\x01\x83\xff\x7d", api.ErrLong},
		{"long, and a Node's end", "\x81\x05\x01\x84\x80\x01a", api.ErrLong},
		{"an outer one that is short, and tag 0 in it", "\x81\x05\x00\x00", api.ErrShort},
		{"an outer one that is short, and long in it", "\x81\x05\x01\xff\xff\xff", api.ErrShort},
		{"an outer one that is long, and tag 0 in it", "\x81\x84\x80\x01\x00", api.ErrLong},
		{"a Node that goes beyond, and tag 0 in it", "\x81\x03\x82\x02\x00", api.ErrForm},
		{"a Node that goes beyond, and long in it", "\x81\x04\x82\x06\x01\xff\xff\xff", api.ErrForm},
		{"the first of two: long, tag 0", "\x81\x06\x01\x84\x80\x01\x00\x00", api.ErrLong},
		{"the first of two: tag 0, long", "\x81\x06\x00\x00\x01\x84\x80\x01", api.ErrForm},
		{"deep, and tag 0", around("\x00\x00", 33), api.ErrDeep},
		{"deep, and a length that is long", around("\x01\xff\xff\xff", 33), api.ErrDeep},
		{"deep, and a Node's end", around("\x01", 33), api.ErrDeep},
		{"deep, and a digit 0 ahead", around("\x01\x80", 33), api.ErrDeep},
		{"tag 0, and deep behind it", around("\x00\x00"+around("\x02\x00", 1), 32), api.ErrForm},
		{"a Node's end in 32 others, and deep in it", around("\x81\x03\x01\x00", 32), api.ErrForm},
		{"long in 32 others, and deep in it", around("\x81\x84\x80\x01\x01", 32), api.ErrLong},
		{"deep, and more behind it", around("\x02\x00", 33) + "\x00", api.ErrDeep},
		{"short, though all were deep", around("\x02\x00", 33)[:60], api.ErrShort},
	})
}

func TestRestIsTheLast(t *testing.T) {
	for _, c := range []wrong{
		{"one more", "\x01\x00\x00", api.ErrRest},
		{"another item", "\x01\x00\x01\x00", api.ErrRest},
		{"beyond 65536 bytes", "\x01\x83\xff\x7c" + letters(65533), api.ErrRest},
		{"wrong ahead", "\x00\x00\x00", api.ErrForm},
		{"a Node's end, and more", "\x81\x01\x01\x00\x00", api.ErrForm},
	} {
		if x, e := wire.Get(c.s); e != c.e || !isZero(x) {
			t.Errorf("%s: %v, not %v", c.name, e, c.e)
		}
	}
	if x, n, e := wire.First("\x01\x00\x00"); e != api.OK || n != 2 || !wire.Same(x, leaf(1, "")) {
		t.Error(n, e)
	}
	if _, n, e := wire.First("\x01\x83\xff\x7c" + letters(200000)); e != api.OK || n != api.MaxText {
		t.Error(n, e)
	}
}
