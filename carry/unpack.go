package carry

import (
	"legate/api"
	"legate/hmac"
	"legate/seal"
	"legate/term"
	"legate/wire"
)

// What a term keeps to, so that term.Valid holds of it.
const (
	widest   = 64       // terms of a list
	inmost   = 16       // others that a term stands in
	firstUse = 1        // of a seal or a sum
	lastUse  = 1<<8 - 1 // a byte
)

// reader reads what was packed, for one who has some keys.
type reader struct {
	secret string
	keys   []api.Term
	bases  []string // Bytes of the keys that were looked at already, each at its key's place
}

// newReader takes those of the keys that count for something.
func newReader(secret string, keys []api.Term) *reader {
	r := &reader{secret: secret}
	for _, k := range keys {
		if k.K == api.TmKey && term.Valid(k) {
			// A new one: the caller's may have room in its list.
			r.keys = append(r.keys, term.Key(k.S, k.N))
		}
	}
	r.bases = make([]string, len(r.keys))
	return r
}

// base is a key's Bytes: a text may have many items, and all of them ask for the same.
func (r *reader) base(i int) string {
	if r.bases[i] == "" {
		r.bases[i] = Bytes(r.keys[i], r.secret)
	}
	return r.bases[i]
}

// first is the first of the keys that fits.
func (r *reader) first(fits func(base string) bool) (api.Term, bool) {
	for i, k := range r.keys {
		if fits(r.base(i)) {
			return k, true
		}
	}
	return api.Term{}, false
}

// text is the term of the item that a text is, which stands in so many others.
func (r *reader) text(s string, in int) (api.Term, api.Errno) {
	x, e := wire.Get(s)
	if e != api.OK {
		return api.Term{}, e
	}
	return r.term(x, in)
}

func (r *reader) term(x api.Item, in int) (api.Term, api.Errno) {
	switch {
	case in > inmost:
		return api.Term{}, api.ErrDeep
	case x.Node:
		return r.node(x, in)
	}
	switch x.Tag {
	case tagName:
		return readName(x.S)
	case tagNum:
		return readNum(x.S)
	case tagKey:
		return r.key(x.S)
	case tagSeal:
		return r.seal(x.S, in)
	}
	return api.Term{}, api.ErrForm
}

func (r *reader) node(x api.Item, in int) (api.Term, api.Errno) {
	switch x.Tag {
	case tagList:
		return r.list(x.L, in)
	case tagSum:
		return r.sum(x.L, in)
	}
	return api.Term{}, api.ErrForm
}

func readName(s string) (api.Term, api.Errno) {
	if !term.Name(s) {
		return api.Term{}, api.ErrForm
	}
	return term.Of(s), api.OK
}

func readNum(s string) (api.Term, api.Errno) {
	n, ok := readNumber(s)
	if !ok {
		return api.Term{}, api.ErrForm
	}
	return term.Num(n), api.OK
}

func (r *reader) key(s string) (api.Term, api.Errno) {
	k, ok := r.first(func(base string) bool { return hmac.Equal(base, s) })
	if !ok {
		return api.Term{}, api.ErrKey
	}
	return k, api.OK
}

func (r *reader) list(l []api.Item, in int) (api.Term, api.Errno) {
	if len(l) > widest {
		return api.Term{}, api.ErrForm
	}
	terms := make([]api.Term, 0, len(l))
	for _, x := range l {
		t, e := r.term(x, in+1)
		if e != api.OK {
			return api.Term{}, e
		}
		terms = append(terms, t)
	}
	return term.List(terms...), api.OK
}

func (r *reader) seal(s string, in int) (api.Term, api.Errno) {
	if s == "" || s[0] < firstUse {
		return api.Term{}, api.ErrForm
	}
	use, body := int(s[0]), ""
	k, ok := r.first(func(base string) bool {
		var e api.Errno
		body, e = seal.Open(base, use, s[1:])
		return e == api.OK
	})
	if !ok {
		return api.Term{}, api.ErrSeal
	}
	t, e := r.text(body, in+1)
	if e != api.OK {
		return api.Term{}, e
	}
	return term.Seal(k, use, t), api.OK
}

func (r *reader) sum(l []api.Item, in int) (api.Term, api.Errno) {
	use, ok := sumUse(l)
	if !ok {
		return api.Term{}, api.ErrForm
	}
	t, e := r.term(l[1], in+1)
	if e != api.OK {
		return api.Term{}, e
	}
	// It can be written: it was read.
	body, _ := wire.Put(l[1])
	k, ok := r.first(func(base string) bool { return seal.Check(base, use, body, l[2].S) == api.OK })
	if !ok {
		return api.Term{}, api.ErrSum
	}
	return term.Sum(k, use, t), api.OK
}

// sumUse is the use that a sum's items tell; false, if they are not those of a sum.
func sumUse(l []api.Item) (int, bool) {
	if len(l) != 3 || !isLeaf(l[0], tagNum) || !isLeaf(l[2], tagCheck) {
		return 0, false
	}
	n, ok := readNumber(l[0].S)
	return n, ok && n >= firstUse && n <= lastUse
}

func isLeaf(x api.Item, tag int) bool { return !x.Node && x.Tag == tag }
