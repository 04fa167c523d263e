package wire

import (
	"strings"

	"legate/api"
)

// place is where a text stands in the outermost item: behind so many bytes of it, and in so many items.
type place struct{ ahead, deep int }

// within is the place of an item of a Node that stands at p, behind so many bytes of that.
func (p place) within(n int) place {
	return place{p.ahead + n, p.deep + 1}
}

// read is the item that a text begins with, and how many bytes it is written with.
func read(s string, p place) (api.Item, int, api.Errno) {
	if p.deep > api.MaxDeep {
		return api.Item{}, 0, api.ErrDeep
	}
	if s == "" {
		return api.Item{}, 0, api.ErrShort
	}
	x := api.Item{Node: s[0] >= head, Tag: int(s[0] % base)}
	if x.Tag == 0 {
		return api.Item{}, 0, api.ErrForm
	}
	n, k, e := readLength(s[1:])
	if e != api.OK {
		return api.Item{}, 0, e
	}
	from := 1 + k
	// A length that is too long by itself is so all the more with what is ahead of it.
	if p.ahead+from+n > api.MaxText {
		return api.Item{}, 0, api.ErrLong
	}
	if n > len(s)-from {
		return api.Item{}, 0, api.ErrShort
	}
	body := s[from : from+n]
	if !x.Node {
		x.S = strings.Clone(body)
		return x, from + n, api.OK
	}
	x.L, e = readAll(body, p.within(from))
	if e != api.OK {
		return api.Item{}, 0, e
	}
	return x, from + n, api.OK
}

// readAll is all items that the bytes of a Node are; p is where the first one of them stands.
func readAll(s string, p place) ([]api.Item, api.Errno) {
	var l []api.Item
	for s != "" {
		x, n, e := read(s, p)
		if e == api.ErrShort {
			// The Node ends too early, not the text that was handed in.
			e = api.ErrForm
		}
		if e != api.OK {
			return nil, e
		}
		l = append(l, x)
		s = s[n:]
		p.ahead += n
	}
	return l, api.OK
}

// readLength is the length that a text begins with, and how many digits that has.
func readLength(s string) (int, int, api.Errno) {
	n, k := 0, 0
next:
	// Here a digit follows: what was read counts 128 times as much, whatever that digit is, or if it is missing.
	if n > api.MaxText/base {
		return 0, 0, api.ErrLong
	}
	if k == len(s) {
		return 0, 0, api.ErrShort
	}
	b := int(s[k])
	if k == 0 && b == head {
		return 0, 0, api.ErrForm
	}
	n = n*base + b%base
	k++
	if b >= head {
		goto next
	}
	return n, k, api.OK
}
