package know

import (
	"strconv"

	"legate/api"
)

// mark is a text that no two valid terms share: term.Text won't do, since a name that looks like a number has that
// number's text.
func mark(t api.Term) string {
	return string(lay(nil, t))
}

// lay writes a term's mark behind another one: how many stand within tells where it ends.
func lay(to []byte, t api.Term) []byte {
	to = number(to, int(t.K))
	to = append(append(to, t.S...), ' ')
	to = number(number(to, t.N), len(t.L))
	for _, p := range t.L {
		to = lay(to, p)
	}
	return to
}

func number(to []byte, n int) []byte {
	return append(strconv.AppendInt(to, int64(n), 10), ' ')
}

// own is a term that shares no list with the caller's: that one may go on to change it.
func own(t api.Term) api.Term {
	within := t.L
	t.L = nil
	for _, p := range within {
		t.L = append(t.L, own(p))
	}
	return t
}
