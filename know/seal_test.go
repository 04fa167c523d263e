package know_test

import (
	"math"
	"strings"
	"testing"

	"legate/api"
	"legate/term"
)

// TestSealsWithoutTheirKeys tell nothing: neither their bodies, nor their keys.
func TestSealsWithoutTheirKeys(t *testing.T) {
	for _, body := range []api.Term{x, one, web, ann, term.List(), term.List(x, web), term.Seal(web, 2, x), term.Sum(ann, 2, x)} {
		sealed := term.Seal(ann, 2, body)
		s := heard(sealed, web, x)
		knowsJust(t, s, sealed, web, x)
		knowsNot(t, s, ann)
	}
}

// carriers are ways in which a key may come to be known: what is heard for it, and all that is known of that.
func carriers(key api.Term) [][2][]api.Term {
	other := term.Key("carrier", 9)
	list, sum, sealed := term.List(z, key, z), term.Sum(other, 3, key), term.Seal(other, 4, key)
	deep := term.List(term.Sum(other, 3, term.List(term.Seal(other, 5, list))))
	return [][2][]api.Term{
		{{key}, {key}},
		{{list}, {list, z, key}},
		{{sum}, {sum, key}},
		{{sealed, other}, {sealed, other, key}},
		{{other, sealed}, {sealed, other, key}},
		{{term.List(other, sealed)}, {term.List(other, sealed), other, sealed, key}},
		{{term.List(sealed, other)}, {term.List(sealed, other), other, sealed, key}},
		{{deep, other}, {deep, deep.L[0], deep.L[0].L[1], term.Seal(other, 5, list), other, list, z, key}},
	}
}

// TestSealsAndTheirKeys: whether the seal comes first, or its key, and in whatever way that comes.
func TestSealsAndTheirKeys(t *testing.T) {
	for _, key := range []api.Term{ann, first, term.Key("", math.MaxInt)} {
		sealed := term.Seal(key, 2, term.List(x, y))
		opened := []api.Term{sealed, term.List(x, y), x, y}
		for i, way := range carriers(key) {
			t.Log(i)
			knowsJust(t, heard(append([]api.Term{sealed}, way[0]...)...), append(opened, way[1]...)...)
			knowsJust(t, heard(append(way[0], sealed)...), append(opened, way[1]...)...)
		}
		for _, both := range []api.Term{term.List(sealed, key), term.List(key, sealed)} {
			knowsJust(t, heard(both), append(opened, both, key)...)
		}
	}
}

// TestSealsInSealsAndKeysInAnyOrder: a seal within is known just if those around it are open, its body if it is, too.
func TestSealsInSealsAndKeysInAnyOrder(t *testing.T) {
	keys := []api.Term{ann, ann2, first, second}
	// within are all of them, the outermost first, and the innermost body.
	within := []api.Term{term.List(x, y)}
	for i := range keys {
		within = append([]api.Term{term.Seal(keys[len(keys)-1-i], 2+i, within[0])}, within...)
	}
	inEachOrder(append(keys, within[0]), func(l []api.Term) {
		s := heard()
		var told []api.Term
		for _, p := range l {
			s.Learn(p)
			told = append(told, p)
			knowsJust(t, s, append(told, openOf(told, keys, within)...)...)
		}
	})
}

// openOf are those of seals in seals that are known, but for the outermost, and what is in the innermost.
func openOf(told, keys, within []api.Term) []api.Term {
	has := func(q api.Term) bool {
		for _, p := range told {
			if term.Same(p, q) {
				return true
			}
		}
		return false
	}
	if !has(within[0]) {
		return nil
	}
	var l []api.Term
	for i, k := range keys {
		if !has(k) {
			return l
		}
		l = append(l, within[i+1])
	}
	return append(l, x, y)
}

// TestBodiesThatAreKeys: a chain, in which each seal's body is the next one's key, is open from the first key that is known on.
func TestBodiesThatAreKeys(t *testing.T) {
	keys := []api.Term{ann, web, first, second, ann2}
	var chain []api.Term
	for i, k := range keys[1:] {
		chain = append(chain, term.Seal(keys[i], 3, k))
	}
	inEachOrder(chain, func(l []api.Term) {
		knowsJust(t, heard(l...), chain...)
		for i, k := range keys {
			knowsJust(t, heard(append(l, k)...), append(chain, keys[i:]...)...)
			knowsJust(t, heard(append([]api.Term{k}, l...)...), append(chain, keys[i:]...)...)
			knowsJust(t, heard(append(append(l[:2:2], k), l[2:]...)...), append(chain, keys[i:]...)...)
		}
	})
}

// TestRingsOfSeals: a key that is sealed with itself, or with what it seals, does not come out of it.
func TestRingsOfSeals(t *testing.T) {
	itself := term.Seal(ann, 2, ann)
	knowsJust(t, heard(itself), itself)
	knowsJust(t, heard(itself, ann), itself, ann)
	knowsJust(t, heard(ann, itself), itself, ann)
	ring := []api.Term{term.Seal(ann, 2, web), term.Seal(web, 2, first), term.Seal(first, 2, ann)}
	inEachOrder(ring, func(l []api.Term) {
		knowsJust(t, heard(l...), ring...)
		for _, k := range []api.Term{ann, web, first} {
			knowsJust(t, heard(append(l, k)...), append(ring, ann, web, first)...)
			knowsJust(t, heard(append([]api.Term{k}, l...)...), append(ring, ann, web, first)...)
		}
	})
	within := term.Seal(ann, 2, term.List(x, term.Seal(ann, 3, ann)))
	knowsJust(t, heard(within), within)
	knowsJust(t, heard(within, ann), within, ann, within.L[1], x, term.Seal(ann, 3, ann))
}

// TestSealsThatWaitForOneKey: all of them open, those of one body, too, and those that come later.
func TestSealsThatWaitForOneKey(t *testing.T) {
	waiting := []api.Term{term.Seal(ann, 2, x), term.Seal(ann, 2, y), term.Seal(ann, 3, x), term.Seal(ann, 4, web)}
	later := term.Seal(ann, 9, z)
	forWeb := term.Seal(web, 2, one)
	inEachOrder(append(waiting, forWeb), func(l []api.Term) {
		s := heard(l...)
		knowsJust(t, s, append(waiting, forWeb)...)
		for range 2 {
			s.Learn(ann)
			knowsJust(t, s, append(waiting, ann, x, y, web, forWeb, one)...)
		}
		s.Learn(later)
		knowsJust(t, s, append(waiting, ann, x, y, web, forWeb, one, later, z)...)
	})
	// Each seal waits for its own key.
	s := heard(term.Seal(ann, 2, x), term.Seal(web, 2, y), web)
	knowsJust(t, s, term.Seal(ann, 2, x), term.Seal(web, 2, y), web, y)
	s.Learn(ann)
	knowsJust(t, s, term.Seal(ann, 2, x), term.Seal(web, 2, y), web, y, ann, x)
}

// TestKeysThatAreNotTheSeals: those that differ in their name or their number alone, and what is no key, open nothing.
func TestKeysThatAreNotTheSeals(t *testing.T) {
	keys := []api.Term{
		ann, ann2, web, web2, first, second, term.Key("ann", 11), term.Key("ann", 12), term.Key("", 11), term.Key("", 12), term.Key("", math.MaxInt), term.Key("", math.MaxInt-1), term.Key("ann", math.MaxInt),
		term.Key("an", 1), term.Key("anna", 1), term.Key("ann1", 1), term.Key("1", 1), term.Key("2", 1), term.Key("-", 1), term.Key("ann.", 1), term.Key("centre", 1), term.Key(strings.Repeat("z", 40), 1), term.Key(strings.Repeat("z", 39), 1), term.Key(strings.Repeat("z", 39)+"y", 1),
		term.Key("", 1<<32+1), term.Key("", 257),
	}
	notKeys := []api.Term{term.Of("ann"), one, term.Num(2), term.Row([]string{"ann", "1"}), term.List(term.Of("ann"), one), term.List()}
	for i, key := range keys {
		sealed := term.Seal(key, 2, x)
		for k, other := range keys {
			if i == k {
				knowsJust(t, heard(sealed, other), sealed, x, key)
				continue
			}
			knowsJust(t, heard(sealed, other), sealed, other)
			knowsJust(t, heard(other, sealed), sealed, other)
		}
		for _, other := range notKeys {
			knowsNot(t, heard(sealed, other), x, key)
			knowsNot(t, heard(other, sealed), x, key)
		}
	}
	knowsJust(t, heard(keys...), keys...)
}
