package carry

import (
	"legate/api"
	"legate/hmac"
	"legate/seal"
	"legate/term"
	"legate/wire"
)

// What a seal's nonce is made of, and how many bytes it has.
const (
	labelNonce = "nonce\x00"
	nonceSize  = 12
)

// packed is an item, and what it is written as: a list takes the item, a seal the text, and a sum both.
type packed struct {
	item api.Item
	text string
}

// pack packs a valid term.
func pack(t api.Term, secret string) (packed, api.Errno) {
	switch t.K {
	case api.TmName:
		return write(leaf(tagName, t.S))
	case api.TmNum:
		return write(leaf(tagNum, writeNumber(t.N)))
	case api.TmKey:
		return write(leaf(tagKey, Bytes(t, secret)))
	case api.TmList:
		return packList(t.L, secret)
	case api.TmSeal:
		return packSeal(t, secret)
	}
	return packSum(t, secret)
}

func packList(l []api.Term, secret string) (packed, api.Errno) {
	items := make([]api.Item, 0, len(l))
	n := 0
	for _, t := range l {
		p, e := pack(t, secret)
		if e != api.OK {
			return packed{}, e
		}
		// It ends as soon as it is too long: what follows would be sealed in vain.
		if n += len(p.text); n > api.MaxText {
			return packed{}, api.ErrLong
		}
		items = append(items, p.item)
	}
	return write(node(tagList, items...))
}

func packSeal(t api.Term, secret string) (packed, api.Errno) {
	body, e := pack(t.L[1], secret)
	if e != api.OK {
		return packed{}, e
	}
	s, e := seal.Seal(Bytes(t.L[0], secret), t.N, nonce(t, secret), body.text)
	if e != api.OK {
		return packed{}, e
	}
	return write(leaf(tagSeal, string([]byte{byte(t.N)})+s))
}

// nonce hangs on what is sealed, and on how: seals that are unlike must not have the same one.
func nonce(t api.Term, secret string) string {
	return hmac.Mac(secret, labelNonce+term.Text(t))[:nonceSize]
}

func packSum(t api.Term, secret string) (packed, api.Errno) {
	body, e := pack(t.L[1], secret)
	if e != api.OK {
		return packed{}, e
	}
	sum := seal.Sum(Bytes(t.L[0], secret), t.N, body.text)
	return write(node(tagSum, leaf(tagNum, writeNumber(t.N)), body.item, leaf(tagCheck, sum)))
}

// write answers ErrLong alone: of an item that a valid term asks for, nothing can be wrong but its length.
func write(x api.Item) (packed, api.Errno) {
	s, e := wire.Put(x)
	if e != api.OK {
		return packed{}, api.ErrLong
	}
	return packed{x, s}, api.OK
}

func leaf(tag int, s string) api.Item { return api.Item{Tag: tag, S: s} }

func node(tag int, l ...api.Item) api.Item { return api.Item{Node: true, Tag: tag, L: l} }
