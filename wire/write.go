package wire

import "legate/api"

// size is with how many bytes an item is written that stands in so many others; false, if it may not be written.
func size(x api.Item, deep int) (int, bool) {
	if deep > api.MaxDeep || x.Tag < 1 || x.Tag >= base {
		return 0, false
	}
	n, ok := bodySize(x, deep)
	n += 1 + digits(n)
	if !ok || n > api.MaxText {
		return 0, false
	}
	return n, true
}

func bodySize(x api.Item, deep int) (int, bool) {
	if !x.Node {
		return len(x.S), len(x.L) == 0
	}
	if x.S != "" {
		return 0, false
	}
	n := 0
	for _, y := range x.L {
		m, ok := size(y, deep+1)
		n += m
		// It ends as soon as it is too long: items may share their lists, and be far more than there is memory for.
		if !ok || n > api.MaxText {
			return 0, false
		}
	}
	return n, true
}

// digits is how many digits a length has.
func digits(n int) int {
	k := 1
	for n >= base {
		n /= base
		k++
	}
	return k
}

// write lays an item behind b; the item is valid, so that either S or L is empty.
func write(b []byte, x api.Item) []byte {
	body := []byte(x.S)
	for _, y := range x.L {
		body = write(body, y)
	}
	b = append(b, tagByte(x))
	b = writeLength(b, len(body))
	return append(b, body...)
}

func tagByte(x api.Item) byte {
	if x.Node {
		return byte(x.Tag + head)
	}
	return byte(x.Tag)
}

func writeLength(b []byte, n int) []byte {
	if n >= base {
		b = writeAhead(b, n/base)
	}
	return append(b, byte(n%base))
}

// writeAhead writes the digits that are not the last one.
func writeAhead(b []byte, n int) []byte {
	if n >= base {
		b = writeAhead(b, n/base)
	}
	return append(b, byte(n%base+head))
}
