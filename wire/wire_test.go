package wire_test

import (
	"strings"
	"testing"

	"legate/api"
	"legate/wire"
)

func leaf(tag int, s string) api.Item { return api.Item{Tag: tag, S: s} }

func node(tag int, l ...api.Item) api.Item { return api.Item{Node: true, Tag: tag, L: l} }

func letters(n int) string { return strings.Repeat("a", n) }

// nest is an item in so many Nodes.
func nest(x api.Item, n int) api.Item {
	for range n {
		x = node(1, x)
	}
	return x
}

// around is a text in so many Nodes that are as long as it needs.
func around(s string, n int) string {
	for range n {
		if len(s) > 127 {
			panic("a length of one digit only")
		}
		s = "\x81" + string([]byte{byte(len(s))}) + s
	}
	return s
}

// holdsItself is an item that has itself among its items.
func holdsItself(tag, width int) api.Item {
	l := make([]api.Item, width)
	for i := range l {
		l[i] = node(tag, l...)
	}
	return l[0]
}

// isZero does not ask Same, which is tested here too.
func isZero(x api.Item) bool {
	return !x.Node && x.Tag == 0 && x.S == "" && len(x.L) == 0
}

type written struct {
	name string
	x    api.Item
	s    string
}

func ordinary() []written {
	return []written{
		{"the document's first example", node(2, leaf(1, "hi")), "\x82\x04\x01\x02\x68\x69"},
		{"the document's second example", leaf(1, letters(200)), "\x01\x81\x48" + letters(200)},
		{"least tag", leaf(1, ""), "\x01\x00"},
		{"greatest tag", leaf(127, "x"), "\x7f\x01x"},
		{"least tag of a Node", node(1), "\x81\x00"},
		{"greatest tag of a Node", node(127, leaf(1, "")), "\xff\x02\x01\x00"},
		{"length 127", leaf(3, letters(127)), "\x03\x7f" + letters(127)},
		{"length 128", leaf(3, letters(128)), "\x03\x81\x00" + letters(128)},
		{"length 16383", leaf(3, letters(16383)), "\x03\xff\x7f" + letters(16383)},
		{"length 16384", leaf(3, letters(16384)), "\x03\x81\x80\x00" + letters(16384)},
		{"65536 bytes", leaf(3, letters(65532)), "\x03\x83\xff\x7c" + letters(65532)},
		{"65536 bytes in a Node", node(3, leaf(4, letters(65528))), "\x83\x83\xff\x7c\x04\x83\xff\x78" + letters(65528)},
		{"bytes that look like items", leaf(1, "\x00\x80\xff\x01\x00"), "\x01\x05\x00\x80\xff\x01\x00"},
		{"items behind each other", node(5, node(6), leaf(7, "a"), node(8, leaf(9, "b"), leaf(9, "b"))), "\x85\x0d\x86\x00\x07\x01a\x88\x06\x09\x01b\x09\x01b"},
		{"in 32 others", nest(leaf(2, "z"), 32), around("\x02\x01z", 32)},
		{"a Node in 32 others", nest(node(2), 32), around("\x82\x00", 32)},
	}
}

func TestWhatIsWrittenIsReadAgain(t *testing.T) {
	for _, c := range ordinary() {
		if !wire.Valid(c.x) {
			t.Errorf("%s: not valid", c.name)
		}
		if s, e := wire.Put(c.x); s != c.s || e != api.OK {
			t.Errorf("%s: Put %.30q %v", c.name, s, e)
		}
		if x, e := wire.Get(c.s); e != api.OK || !wire.Same(x, c.x) {
			t.Errorf("%s: Get %v", c.name, e)
		}
		if x, n, e := wire.First(c.s + "\x00rest"); e != api.OK || n != len(c.s) || !wire.Same(x, c.x) {
			t.Errorf("%s: First %d %v", c.name, n, e)
		}
		if x, e := wire.Get(c.s + "\x00"); e != api.ErrRest || !isZero(x) {
			t.Errorf("%s: Get with more behind it: %v", c.name, e)
		}
	}
}

func TestWhatEndsTooEarlyIsShort(t *testing.T) {
	for _, c := range ordinary() {
		step := 1 + len(c.s)/500
		for n := 0; n < len(c.s); n += step {
			x, k, e := wire.First(c.s[:n])
			if e != api.ErrShort || k != 0 || !isZero(x) {
				t.Fatalf("%s: its first %d bytes: %d %v", c.name, n, k, e)
			}
		}
	}
}

func TestWhatIsNotValidIsNotWritten(t *testing.T) {
	for name, x := range map[string]api.Item{
		"zero":                          {},
		"tag 0":                         leaf(0, "a"),
		"tag 128":                       leaf(128, "a"),
		"tag below 0":                   leaf(-1, "a"),
		"tag that goes round to 1":      leaf(257, "a"),
		"least tag there is":            leaf(-1<<63, "a"),
		"greatest tag there is":         leaf(1<<63-1, "a"),
		"tag 0 of a Node":               node(0),
		"tag 128 of a Node":             node(128),
		"a Node with bytes":             {Node: true, Tag: 1, S: "a"},
		"a Node with bytes and items":   {Node: true, Tag: 1, S: "a", L: []api.Item{leaf(1, "")}},
		"bytes with items":              {Tag: 1, L: []api.Item{leaf(1, "")}},
		"bytes with both":               {Tag: 1, S: "a", L: []api.Item{leaf(1, "")}},
		"one that is not valid in it":   node(1, leaf(1, ""), leaf(0, "")),
		"a Node with bytes, deep in it": nest(api.Item{Node: true, Tag: 1, S: "a"}, 32),
		"in 33 others":                  nest(leaf(1, ""), 33),
		"a Node in 33 others":           nest(node(1), 33),
		"65537 bytes":                   leaf(1, letters(65533)),
		"a text of 65536 bytes":         leaf(1, letters(65536)),
		"a text of 65537 bytes":         leaf(1, letters(65537)),
		"65537 bytes in a Node":         node(1, leaf(1, letters(65529))),
		"65536 bytes, and two more":     node(1, leaf(1, letters(65528)), node(1)),
		"many that are small":           {Node: true, Tag: 1, L: manyOf(leaf(1, ""), 40000)},
		"itself in it":                  holdsItself(1, 1),
		"itself in it twice":            holdsItself(1, 2),
		"one list in very many places":  twofold(32),
		"one item very many times":      {Node: true, Tag: 1, L: manyOf(twofold(13), 1000000)},
	} {
		if wire.Valid(x) {
			t.Errorf("%s: valid", name)
		}
		if s, e := wire.Put(x); s != "" || e != api.ErrArg {
			t.Errorf("%s: Put %.30q %v", name, s, e)
		}
	}
}

func manyOf(x api.Item, n int) []api.Item {
	l := make([]api.Item, n)
	for i := range l {
		l[i] = x
	}
	return l
}

// twofold is an item of two that are the same, and so on: 2^n in all.
func twofold(n int) api.Item {
	x := leaf(1, "")
	for range n {
		x = node(1, x, x)
	}
	return x
}

func TestAsManyAsThereIsRoomFor(t *testing.T) {
	// Each has 2 bytes, the Node around them 4: 65536 in all.
	full := api.Item{Node: true, Tag: 1, L: manyOf(leaf(1, ""), 32766)}
	s, e := wire.Put(full)
	if len(s) != api.MaxText || e != api.OK {
		t.Fatal(len(s), e)
	}
	if x, e := wire.Get(s); e != api.OK || !wire.Same(x, full) {
		t.Error(e)
	}
	full.L = append(full.L, leaf(1, ""))
	if wire.Valid(full) {
		t.Error("one more is valid")
	}
}

// TestLengthsCountWithTheirDigits: where a length gets one digit more, the item that is around it may be one byte too long.
func TestLengthsCountWithTheirDigits(t *testing.T) {
	for _, c := range []struct{ length, digits int }{{127, 1}, {128, 2}, {16383, 2}, {16384, 3}} {
		// The Node has 4 bytes ahead, and so has its second item.
		room := api.MaxText - 4 - (1 + c.digits + c.length) - 4
		fits := node(1, leaf(2, letters(c.length)), leaf(3, letters(room)))
		s, e := wire.Put(fits)
		if len(s) != api.MaxText || e != api.OK {
			t.Error(c.length, len(s), e)
		}
		if x, e := wire.Get(s); e != api.OK || !wire.Same(x, fits) {
			t.Error(c.length, e)
		}
		if wire.Valid(node(1, leaf(2, letters(c.length)), leaf(3, letters(room+1)))) {
			t.Error(c.length, "one byte more is valid")
		}
	}
}

func TestSame(t *testing.T) {
	base := node(1, leaf(2, "a"), node(3, leaf(4, "b")))
	for name, x := range map[string]api.Item{
		"another tag":          node(2, leaf(2, "a"), node(3, leaf(4, "b"))),
		"bytes, not a Node":    {Tag: 1, L: base.L},
		"with bytes":           {Node: true, Tag: 1, S: "a", L: base.L},
		"one less":             node(1, leaf(2, "a")),
		"one more":             node(1, leaf(2, "a"), node(3, leaf(4, "b")), node(1)),
		"another order":        node(1, node(3, leaf(4, "b")), leaf(2, "a")),
		"other bytes deep":     node(1, leaf(2, "a"), node(3, leaf(4, "c"))),
		"another tag deep":     node(1, leaf(2, "a"), node(3, leaf(5, "b"))),
		"none of its items":    node(1),
		"nothing":              {},
		"a Node deep as bytes": node(1, leaf(2, "a"), api.Item{Tag: 3, L: []api.Item{leaf(4, "b")}}),
	} {
		if wire.Same(base, x) || wire.Same(x, base) {
			t.Errorf("%s: the same", name)
		}
		if !wire.Same(x, x) {
			t.Errorf("%s: not the same as itself", name)
		}
	}
	if !wire.Same(base, node(1, leaf(2, "a"), node(3, leaf(4, "b")))) {
		t.Error("made twice: not the same")
	}
	if !wire.Same(node(1), api.Item{Node: true, Tag: 1, L: []api.Item{}}) {
		t.Error("lists without items are not alike")
	}
	if !wire.Same(leaf(1, "a"), api.Item{Tag: 1, S: "a", L: []api.Item{}}) {
		t.Error("lists without items are not alike, of bytes")
	}
}

func TestSameOfWhatIsNotValid(t *testing.T) {
	if wire.Same(leaf(-1, ""), leaf(-2, "")) || !wire.Same(leaf(-1, ""), leaf(-1, "")) {
		t.Error("tags that may not be")
	}
	a, b := nest(leaf(1, "a"), 1<<16), nest(leaf(1, "a"), 1<<16)
	if !wire.Same(a, b) {
		t.Error("in 65536 others: not the same")
	}
	if wire.Same(a, nest(leaf(1, "b"), 1<<16)) {
		t.Error("in 65536 others: the same")
	}
	// What is answered is not promised here, but that it answers.
	wire.Same(holdsItself(1, 1), holdsItself(1, 1))
	wire.Same(holdsItself(1, 2), holdsItself(1, 2))
	if wire.Same(holdsItself(1, 1), holdsItself(2, 1)) {
		t.Error("other tags: the same")
	}
}

func TestAnswersShareNothing(t *testing.T) {
	s := "\x81\x0c\x82\x03\x01\x01a\x83\x03\x01\x01b\x04\x00"
	x, _ := wire.Get(s)
	y, _ := wire.Get(s)
	x.L[0].L[0].S = "changed"
	x.L[0].L = append(x.L[0].L, leaf(9, "more"))
	x.L = append(x.L[:1], leaf(9, "other"))
	if w, e := wire.Put(y); w != s || e != api.OK {
		t.Errorf("%q %v", w, e)
	}
	z := node(1, leaf(2, "a"))
	before, _ := wire.Put(z)
	z.L[0].S = "b"
	if after, _ := wire.Put(z); before != "\x81\x03\x02\x01a" || after != "\x81\x03\x02\x01b" {
		t.Errorf("%q %q", before, after)
	}
}

func TestArgumentsStayAsTheyAre(t *testing.T) {
	x := node(1, leaf(2, "a"), node(3, leaf(4, "b")))
	y := node(1, leaf(2, "a"), node(3, leaf(4, "b")))
	wire.Valid(x)
	wire.Put(x)
	wire.Same(x, node(1))
	if !wire.Same(x, y) || x.L[0].S != "a" || x.L[1].L[0].Tag != 4 {
		t.Error("changed")
	}
}
