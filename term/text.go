package term

import (
	"strconv"

	"legate/api"
)

// Text is a term's text.
func Text(t api.Term) string {
	return string(write(nil, 0, t))
}

// write lays a term's text behind another one: texts that are joined level by level would be copied once a level.
func write(to []byte, in int, t api.Term) []byte {
	if in > deepest {
		return append(to, '?')
	}
	switch t.K {
	case api.TmName:
		return append(to, t.S...)
	case api.TmNum:
		return number(to, t.N)
	case api.TmKey:
		to = append(append(to, "key("...), t.S...)
		return append(number(append(to, ' '), t.N), ')')
	case api.TmList:
		return list(to, in, t.L)
	case api.TmSeal:
		return keyed(to, "seal(", in, t)
	case api.TmSum:
		return keyed(to, "sum(", in, t)
	}
	return append(to, '?')
}

func number(to []byte, n int) []byte {
	return strconv.AppendInt(to, int64(n), 10)
}

func list(to []byte, in int, l []api.Term) []byte {
	to = append(to, '[')
	for i, p := range l {
		if i > 0 {
			to = append(to, ' ')
		}
		to = write(to, in+1, p)
	}
	return append(to, ']')
}

// keyed writes what has a key, a use and a body.
func keyed(to []byte, head string, in int, t api.Term) []byte {
	if len(t.L) != 2 {
		return append(to, '?')
	}
	to = write(append(to, head...), in+1, t.L[0])
	to = number(append(to, ' '), t.N)
	to = write(append(to, ' '), in+1, t.L[1])
	return append(to, ')')
}
