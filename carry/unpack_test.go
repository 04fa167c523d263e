package carry_test

import (
	"math"
	"slices"
	"strings"
	"testing"

	"legate/api"
	"legate/carry"
	"legate/term"
)

// samples are valid terms of all kinds, whose keys are ann, web and session.
func samples() []api.Term {
	sealed := term.Seal(web, 2, term.List(ann, session, web))
	l := []api.Term{
		term.Of("hi"), term.Of(strings.Repeat("z", 40)), term.Of("-3"), term.Num(0), term.Num(-1), term.Num(math.MaxInt), term.Num(math.MinInt), ann, web, session,
		term.List(), term.List(term.List()), term.List(one), numbers(63), numbers(64), term.List(ann, one, web, term.Of("a"), session, ann),
		sealed, term.Sum(web, 2, ann), term.Seal(ann, 1, one), term.Sum(ann, 1, one), term.Seal(session, 255, term.List()), term.Sum(session, 255, term.List()),
		term.Seal(ann, 3, term.Seal(web, 4, term.Of("x"))), term.Sum(ann, 3, term.Sum(web, 4, term.Of("x"))), term.Seal(ann, 7, term.Sum(ann, 7, ann)), term.Sum(ann, 200, term.Seal(session, 1, term.Num(5))),
		term.List(sealed, sealed, term.Sum(session, 9, sealed), term.Seal(ann, 9, term.List(sealed, term.Sum(web, 8, sealed)))),
	}
	for _, f := range kinds() {
		for _, g := range kinds() {
			l = append(l, nested(16, one, f, g), nested(15, session, f, g), nested(7, numbers(64), f, g))
		}
	}
	return l
}

// orders are some keys in whatever order.
func orders(keys []api.Term) [][]api.Term {
	if len(keys) == 0 {
		return [][]api.Term{nil}
	}
	var l [][]api.Term
	for i, k := range keys {
		rest := slices.Concat(keys[:i], keys[i+1:])
		for _, o := range orders(rest) {
			l = append(l, append([]api.Term{k}, o...))
		}
	}
	return l
}

// countForNothing are terms that are no keys, or not valid, but have the owners and numbers of those that are.
func countForNothing() []api.Term {
	var l []api.Term
	for _, k := range []api.Term{ann, web, session} {
		for _, kind := range []api.TermKind{api.TmName, api.TmNum, api.TmList, api.TmSeal, api.TmSum, -1, 6, 99} {
			l = append(l, api.Term{K: kind, S: k.S, N: k.N})
		}
		l = append(l, api.Term{K: api.TmKey, S: k.S, N: k.N, L: []api.Term{one}}, term.List(k), term.Seal(k, 2, k))
	}
	return append(l, api.Term{}, term.Of("ann"), one, term.Key("ann", 0), term.Key("", 0), term.Key("", -7), term.Key("A", 1), term.Key(strings.Repeat("z", 41), 1))
}

// fitNothing are keys that are valid, and others than those of the samples.
func fitNothing() []api.Term {
	return []api.Term{term.Key("ann", 2), term.Key("web", 1), term.Key("", 1), term.Key("", math.MaxInt), term.Key("an", 1), term.Key(strings.Repeat("z", 40), 1)}
}

func TestBack(t *testing.T) {
	for _, secret := range []string{"", "secret", strings.Repeat("k", 100)} {
		for _, x := range samples() {
			s := mustPack(t, x, secret)
			for _, keys := range orders([]api.Term{ann, web, session}) {
				unpacks(t, "back", s, secret, keys, x)
			}
		}
	}
}

// TestBackAmongOthers lays ahead of, between and behind the keys that fit those that fit nothing.
func TestBackAmongOthers(t *testing.T) {
	for _, others := range [][]api.Term{fitNothing(), countForNothing(), slices.Concat(fitNothing(), countForNothing()), {term.Key("db", 1)}} {
		keys := slices.Concat(others, []api.Term{ann}, others, others, []api.Term{web}, others, []api.Term{session}, others)
		back := slices.Clone(keys)
		slices.Reverse(back)
		for _, x := range samples() {
			s := mustPack(t, x, "s")
			unpacks(t, "among others", s, "s", keys, x)
			unpacks(t, "among others, from the last on", s, "s", back, x)
		}
	}
	var many []api.Term
	for i := range 500 {
		many = append(many, term.Key("", 100+i))
	}
	for _, x := range samples()[:27] {
		unpacks(t, "behind many", mustPack(t, x, "s"), "s", slices.Concat(many, []api.Term{session, web, ann}), x)
	}
}

// TestBackWithKeysTwice: of two that fit the first one counts; both are the same but for a list that is empty and one that is none.
func TestBackWithKeysTwice(t *testing.T) {
	room := api.Term{K: api.TmKey, S: "ann", N: 1, L: make([]api.Term, 0, 4)}
	for _, keys := range [][]api.Term{{ann, ann, web, web, session, session}, {room, ann, web, session, web, session}, {web, ann, session, room, ann}} {
		for _, x := range samples() {
			unpacks(t, "twice", mustPack(t, x, "s"), "s", keys, x)
		}
	}
}

// TestBackWithoutKeys: what has no keys needs none, and what has some tells that there is none.
func TestBackWithoutKeys(t *testing.T) {
	for _, keys := range [][]api.Term{nil, {}, fitNothing(), countForNothing()} {
		for _, x := range []api.Term{term.Of("hi"), term.Num(-1), term.List(), numbers(64), inLists(16, one)} {
			unpacks(t, "without keys", mustPack(t, x, "s"), "s", keys, x)
		}
		for _, k := range []api.Term{ann, web, session} {
			for want, x := range map[api.Errno]api.Term{api.ErrKey: k, api.ErrSeal: term.Seal(k, 2, one), api.ErrSum: term.Sum(k, 2, one)} {
				unpacksNot(t, "a key", mustPack(t, x, "s"), "s", keys, want)
				unpacksNot(t, "in a list", mustPack(t, term.List(one, x, one), "s"), "s", keys, want)
				unpacksNot(t, "in a seal", mustPack(t, term.Seal(term.Key("db", 1), 2, x), "s"), "s", append([]api.Term{term.Key("db", 1)}, keys...), want)
				unpacksNot(t, "in a sum", mustPack(t, term.Sum(term.Key("db", 1), 2, x), "s"), "s", append([]api.Term{term.Key("db", 1)}, keys...), want)
			}
		}
	}
}

// TestBackWithOneKeyMissing: each of three keys is needed.
func TestBackWithOneKeyMissing(t *testing.T) {
	s := mustPack(t, term.Seal(ann, 2, term.Sum(web, 3, session)), "s")
	unpacks(t, "all", s, "s", []api.Term{session, web, ann}, term.Seal(ann, 2, term.Sum(web, 3, session)))
	unpacksNot(t, "without ann's", s, "s", []api.Term{session, web}, api.ErrSeal)
	unpacksNot(t, "without web's", s, "s", []api.Term{session, ann}, api.ErrSum)
	unpacksNot(t, "without the session's", s, "s", []api.Term{web, ann}, api.ErrKey)
	unpacksNot(t, "with ann's alone", s, "s", []api.Term{ann}, api.ErrKey)
}

func TestBackWithAnotherSecret(t *testing.T) {
	keys := []api.Term{ann, web, session}
	secrets := []string{"", "s", "secret", "secret ", strings.Repeat("k", 64)}
	for i, secret := range secrets {
		for j, other := range secrets {
			if i == j {
				continue
			}
			for want, x := range map[api.Errno]api.Term{api.ErrKey: ann, api.ErrSeal: term.Seal(ann, 2, one), api.ErrSum: term.Sum(session, 2, one)} {
				unpacksNot(t, "another secret", mustPack(t, x, secret), other, keys, want)
			}
			unpacks(t, "another secret, without keys", mustPack(t, numbers(3), secret), other, keys, numbers(3))
		}
	}
}

// TestNotValidKeysCountForNothing: texts that are made with them.
func TestNotValidKeysCountForNothing(t *testing.T) {
	for _, k := range countForNothing() {
		if k.K == api.TmKey && len(k.L) > 0 {
			continue // its bytes are those of a key that is valid
		}
		base, body := keyBytes(k, "s"), leaf(1, "a")
		keys := []api.Term{k, k}
		unpacksNot(t, "a key", leaf(3, base), "s", keys, api.ErrKey)
		unpacksNot(t, "a seal", sealed(base, 2, "0123456789ab", body), "s", keys, api.ErrSeal)
		unpacksNot(t, "a sum", summed(base, 2, body), "s", keys, api.ErrSum)
	}
	// Those whose numbers and owners are a key's are not taken in its place.
	for _, k := range countForNothing() {
		unpacksNot(t, "a key", leaf(3, keyBytes(k, "s")), "s", []api.Term{k}, api.ErrKey)
	}
	itself := api.Term{K: api.TmKey, S: "ann", N: 1, L: make([]api.Term, 2)}
	itself.L[0], itself.L[1] = itself, itself
	unpacksNot(t, "a key that holds itself", leaf(3, keyBytes(ann, "s")), "s", []api.Term{itself}, api.ErrKey)
	unpacks(t, "behind one that holds itself", leaf(3, keyBytes(ann, "s")), "s", []api.Term{itself, ann}, ann)
}

// TestSealsOfOtherNonces: whatever the nonce is, a seal is opened.
func TestSealsOfOtherNonces(t *testing.T) {
	for _, nonce := range []string{"0123456789ab", strings.Repeat("\x00", 12), strings.Repeat("\xff", 12)} {
		for _, use := range []byte{1, 2, 127, 128, 255} {
			s := sealed(keyBytes(web, "s"), use, nonce, leaf(2, number(-5)))
			unpacks(t, "a seal", s, "s", []api.Term{ann, web}, term.Seal(web, int(use), term.Num(-5)))
		}
	}
}

// TestBackOfTheLongest: what is written with 65536 bytes is read again.
func TestBackOfTheLongest(t *testing.T) {
	keys := []api.Term{session, ann, web}
	for _, x := range []api.Term{sized(t, 65536), term.Seal(ann, 2, sized(t, 65487)), term.Sum(web, 3, sized(t, 65488)), term.Seal(ann, 2, term.Sum(web, 3, sized(t, 65439)))} {
		s := mustPack(t, x, "s")
		if len(s) != api.MaxText {
			t.Error(len(s))
		}
		unpacks(t, "the longest", s, "s", keys, x)
	}
}

func TestSameArgumentsSameAnswers(t *testing.T) {
	for _, x := range samples() {
		s := mustPack(t, x, "s")
		for range 3 {
			if mustPack(t, x, "s") != s {
				t.Errorf("%.80s: packed as another text", term.Text(x))
			}
			unpacks(t, "again", s, "s", []api.Term{ann, web, session}, x)
			unpacksNot(t, "again", s+"x", "s", []api.Term{ann, web, session}, api.ErrRest)
		}
	}
}

// withRoom is a term like another one, each of whose lists has room behind its end.
func withRoom(x api.Term) api.Term {
	y := x
	y.L = make([]api.Term, 0, len(x.L)+2)
	for _, p := range x.L {
		y.L = append(y.L, withRoom(p))
	}
	return y
}

// whole are a list's terms, with those in the room behind its end, and all within.
func whole(l []api.Term) []api.Term {
	var all []api.Term
	for _, x := range l[:cap(l)] {
		all = append(all, x)
		all = append(all, whole(x.L)...)
	}
	return all
}

func TestArgumentsStayAsTheyAre(t *testing.T) {
	keys := append(make([]api.Term, 0, 40), withRoom(ann), withRoom(term.Key("db", 9)), withRoom(web), withRoom(session), withRoom(term.List(ann, web)), term.Of("ann"))
	keysBefore := whole(keys)
	for _, x := range samples() {
		x = withRoom(x)
		before := whole(x.L)
		s := mustPack(t, x, "s")
		y, e := carry.Unpack(s, "s", keys)
		if e != api.OK {
			t.Fatal(e)
		}
		spoil(y)
		carry.Unpack(s, "other", keys)
		carry.Bytes(x, "s")
		if !slices.EqualFunc(whole(x.L), before, alike) || !slices.EqualFunc(whole(keys), keysBefore, alike) {
			t.Errorf("%.80s: changed", term.Text(x))
		}
	}
}

// spoil changes all of a term that may be changed, and lays more behind each of its lists.
func spoil(x api.Term) {
	for i := range x.L {
		spoil(x.L[i])
		x.L[i].S, x.L[i].N = "spoilt", 99
		_ = append(x.L[i].L, term.Of("spoilt"))
	}
	_ = append(x.L, term.Of("spoilt"))
}

// TestAnswersShareNothing: neither with each other, nor their lists with one another.
func TestAnswersShareNothing(t *testing.T) {
	room := withRoom(ann)
	keys := []api.Term{room, web, session}
	for _, x := range samples() {
		s := mustPack(t, x, "s")
		y, _ := carry.Unpack(s, "s", keys)
		z, _ := carry.Unpack(s, "s", keys)
		spoil(y)
		if !alike(z, x) {
			t.Errorf("%.80s: changed by another answer", term.Text(x))
		}
		unpacks(t, "once more", s, "s", keys, x)
	}
	y, _ := carry.Unpack(mustPack(t, term.List(ann, ann, term.List(one), term.List(one)), "s"), "s", keys)
	y.L[0].L = append(y.L[0].L, one)
	y.L[1].L = append(y.L[1].L, web)
	y.L[2].L = append(y.L[2].L, web)
	y.L[3].L[0] = web
	if !alike(y.L[0].L[0], one) || !alike(y.L[2].L[0], one) || !alike(room.L[:1][0], api.Term{}) {
		t.Error("lists of one answer, or a key's, are shared")
	}
}
