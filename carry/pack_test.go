package carry_test

import (
	"math"
	"strings"
	"testing"

	"legate/api"
	"legate/carry"
	"legate/term"
)

func TestPackExample(t *testing.T) {
	if s, e := carry.Pack(term.Of("hi"), "s"); s != "\x01\x02\x68\x69" || e != api.OK {
		t.Errorf("%x %v", s, e)
	}
}

// TestKnownPacks were reckoned by other programs, Python's HMAC and OpenSSL's counter mode.
func TestKnownPacks(t *testing.T) {
	x := term.Of("x")
	inner := term.Seal(session, 255, term.List(x, term.Num(-3)))
	for _, c := range []struct {
		x    api.Term
		want string
	}{
		{term.Seal(ann, 2, x), "053002ddbe88e55970e2ead1f870c9b06e47d780fa0b449c866cca65cf718529fd0eec9881927e7c55a04fd035ce5fc92d54"},
		{term.Sum(session, 255, term.Num(-3)), "8636020800000000000000ff0208fffffffffffffffd072080f6500aaa8325279ed8ce714645b0124bf787c57df45e71140e2393b5d1426e"},
		{term.Seal(web, 1, term.Sum(ann, 200, inner)), "058119014d1e245b5ec16d661026458e2d6bc519001c8d148a0b9d169fab5b2ec72abe964d152d26d58bdcba65b49bf4cb203dd333c3d6056755a00e1a02e672bda954011a77975af0408e3b870f0a813fa35aeff92207c9ceccb510d5f4be2794a07ca2d9f1bb50ba1abf90a7bc85e9a12708f1ab39226c88d18841225efa0db2f129181338848b7b20188c2f574adcbfd555b59d4aa2464ff2a5b8"},
	} {
		if got := mustPack(t, c.x, "secret"); got != raw(t, c.want) {
			t.Errorf("%s: %x", term.Text(c.x), got)
		}
		unpacks(t, "known", raw(t, c.want), "secret", []api.Term{ann, web, session}, c.x)
	}
}

func TestPackNames(t *testing.T) {
	for _, s := range []string{"a", "hi", "12", "-3", ".", "host/web.example", strings.Repeat("z", 40)} {
		got := mustPack(t, term.Of(s), "s")
		if got != "\x01"+string([]byte{byte(len(s))})+s {
			t.Errorf("%q: %x", s, got)
		}
	}
}

func TestPackNumbers(t *testing.T) {
	for n, want := range map[int]string{
		0: "0000000000000000", 1: "0000000000000001", 255: "00000000000000ff", 256: "0000000000000100", 0x0102030405060708: "0102030405060708",
		1 << 40: "0000010000000000", math.MaxInt: "7fffffffffffffff",
		-1: "ffffffffffffffff", -256: "ffffffffffffff00", math.MinInt: "8000000000000000", math.MinInt + 1: "8000000000000001",
	} {
		if got := mustPack(t, term.Num(n), "s"); got != raw(t, "0208"+want) {
			t.Errorf("%d: %x", n, got)
		}
	}
	for _, n := range someNumbers() {
		packs(t, term.Num(n), "s")
	}
}

func TestPackKeys(t *testing.T) {
	for _, secret := range someSecrets() {
		for _, n := range someNumbers() {
			for _, s := range []string{"", "a", "ann", strings.Repeat("z", 40)} {
				x := term.Key(s, n)
				if n < 1 {
					packsNot(t, "a key", x, api.ErrArg)
				} else if got := mustPack(t, x, secret); got != "\x03\x20"+carry.Bytes(x, secret) {
					t.Errorf("%s: %x", term.Text(x), got)
				}
			}
		}
	}
}

// numbers is a list of n numbers.
func numbers(n int) api.Term {
	l := make([]api.Term, n)
	for i := range l {
		l[i] = term.Num(i - 1)
	}
	return term.List(l...)
}

func TestPackLists(t *testing.T) {
	for s, x := range map[string]api.Term{
		"\x84\x00":                                  term.List(),
		"\x84\x03\x01\x01a":                         term.List(term.Of("a")),
		"\x84\x06\x01\x01a\x01\x01b":                term.List(term.Of("a"), term.Of("b")),
		"\x84\x04\x84\x00\x84\x00":                  term.List(term.List(), term.List()),
		"\x84\x09\x84\x05\x84\x03\x01\x01a\x84\x00": term.List(term.List(term.Row([]string{"a"})), term.List()),
	} {
		if got := mustPack(t, x, "s"); got != s {
			t.Errorf("%s: %x", term.Text(x), got)
		}
	}
	for _, n := range []int{0, 1, 2, 12, 13, 63, 64} {
		packs(t, numbers(n), "s")
		packs(t, term.List(numbers(n), numbers(64), numbers(n)), "s")
	}
	packsNot(t, "a list of 65", numbers(65), api.ErrArg)
	packs(t, term.List(ann, term.Of("b"), term.Num(-1), term.Seal(ann, 1, one), term.Sum(web, 2, one), session), "s")
}

func TestPackSealsAndSums(t *testing.T) {
	bodies := []api.Term{term.Of("x"), term.Num(-3), ann, session, term.List(), numbers(64), term.Seal(ann, 1, one), term.Sum(ann, 1, one), term.List(term.Seal(web, 2, term.List()), term.Sum(session, 3, term.Of("a")))}
	for _, use := range []int{1, 2, 3, 127, 128, 200, 254, 255} {
		for _, key := range []api.Term{ann, web, session, term.Key("", math.MaxInt), term.Key(strings.Repeat("z", 40), 1)} {
			for _, body := range bodies {
				packs(t, term.Seal(key, use, body), "secret")
				packs(t, term.Sum(key, use, body), "secret")
			}
		}
	}
	for _, secret := range someSecrets() {
		packs(t, term.Seal(ann, 2, bodies[0]), secret)
		packs(t, term.Sum(ann, 2, bodies[0]), secret)
		packs(t, term.Sum(ann, 2, term.Seal(session, 2, bodies[0])), secret)
	}
}

// TestPackedFieldByField: what a seal and a sum are made of, cut out at their places.
func TestPackedFieldByField(t *testing.T) {
	x := term.Seal(ann, 254, term.Of("hello"))
	s := mustPack(t, x, "s")
	if len(s) != 2+1+44+7 || s[0] != 5 || int(s[1]) != len(s)-2 || s[2] != 254 || s[3:15] != nonceOf(x, "s") {
		t.Errorf("%x", s)
	}
	if s[3:] != sealText(carry.Bytes(ann, "s"), 254, s[3:15], "\x01\x05hello") {
		t.Errorf("%x", s)
	}
	s = mustPack(t, term.Sum(ann, 254, term.Of("hello")), "s")
	if s[:2] != "\x86\x33" || s[2:12] != "\x02\x08\x00\x00\x00\x00\x00\x00\x00\xfe" || s[12:19] != "\x01\x05hello" || s[19:21] != "\x07\x20" {
		t.Errorf("%x", s)
	}
	if s[21:] != sumText(carry.Bytes(ann, "s"), 254, "\x01\x05hello") {
		t.Errorf("%x", s)
	}
}

// TestPackInEachOther lays lists, seals and sums in each other, up to 16 levels, and beyond.
func TestPackInEachOther(t *testing.T) {
	for i, f := range kinds() {
		for k, g := range kinds() {
			for n := range 20 {
				x := nested(n, one, f, g)
				if n <= 16 {
					packs(t, x, "s")
				} else {
					packsNot(t, "too deep", x, api.ErrArg)
				}
				if t.Failed() {
					t.Fatalf("%d and %d, in %d others", i, k, n)
				}
			}
		}
	}
}

// notValid are terms with one thing each that makes them so.
func notValid() []api.Term {
	return []api.Term{
		{}, {K: -1}, {K: 6}, {K: 99, S: "a", N: 1},
		term.Of("A"), term.Of("a b"), term.Of(strings.Repeat("a", 41)), {K: api.TmName, S: "a", N: 1}, {K: api.TmName, S: "a", L: []api.Term{one}},
		{K: api.TmNum, S: "a"}, {K: api.TmNum, L: []api.Term{one}},
		term.Key("ann", 0), term.Key("", 0), term.Key("ann", -1), term.Key("", math.MinInt), term.Key("A", 1), {K: api.TmKey, N: 1, L: []api.Term{one}},
		{K: api.TmList, S: "a"}, {K: api.TmList, N: 1}, numbers(65),
		term.Seal(ann, 0, one), term.Seal(ann, 256, one), term.Seal(ann, -1, one), term.Seal(one, 1, one), term.Seal(term.Key("ann", 0), 1, one), {K: api.TmSeal, N: 1}, {K: api.TmSeal, N: 1, L: []api.Term{ann}}, {K: api.TmSeal, N: 1, S: "a", L: []api.Term{ann, one}}, {K: api.TmSeal, N: 1, L: []api.Term{ann, one, one}},
		term.Sum(ann, 0, one), term.Sum(ann, 256, one), term.Sum(ann, -1, one), term.Sum(one, 1, one), term.Sum(term.Key("ann", 0), 1, one), {K: api.TmSum, N: 1}, {K: api.TmSum, N: 1, L: []api.Term{ann}}, {K: api.TmSum, N: 1, S: "a", L: []api.Term{ann, one}}, {K: api.TmSum, N: 1, L: []api.Term{ann, one, one}},
		inLists(17, one), inLists(40, one),
	}
}

func TestPackOfWhatIsNotValid(t *testing.T) {
	for _, x := range notValid() {
		packsNot(t, "by itself", x, api.ErrArg)
		packsNot(t, "in a list, first", term.List(x, one), api.ErrArg)
		packsNot(t, "in a list, last", term.List(one, x), api.ErrArg)
		for i, f := range kinds() {
			for k, g := range kinds() {
				for n := range 4 {
					if packsNot(t, "further in", nested(n, x, f, g), api.ErrArg); t.Failed() {
						t.Fatalf("%.80s in %d and %d, %d others", term.Text(x), i, k, n)
					}
				}
			}
		}
	}
}

func TestPackOfWhatHoldsItself(t *testing.T) {
	for _, k := range []api.TermKind{api.TmName, api.TmNum, api.TmKey, api.TmList, api.TmSeal, api.TmSum, 9} {
		x := api.Term{K: k, N: 1, L: []api.Term{ann, {}}}
		if k == api.TmList {
			x.N = 0
		}
		x.L[1] = x
		packsNot(t, "itself, second", x, api.ErrArg)
		x.L[0], x.L[1] = x, ann
		packsNot(t, "itself, first", x, api.ErrArg)
	}
}
