// Package wire is layer 1: see shared/doc/01-wire.md.
package wire

import (
	"slices"

	"legate/api"
)

// A byte of a tag, or of a length, is a digit to this base, with one bit more that stands at its head.
const (
	base = 1 << 7
	head = base
)

// deepest is how many levels the document promises something for: an item that holds itself has more.
const deepest = 1 << 16

// Valid tells whether an item may be written.
func Valid(x api.Item) bool {
	_, ok := size(x, 0)
	return ok
}

// Put is an item as bytes.
func Put(x api.Item) (string, api.Errno) {
	if !Valid(x) {
		return "", api.ErrArg
	}
	return string(write(nil, x)), api.OK
}

// Get is the item that a text is.
func Get(s string) (api.Item, api.Errno) {
	x, n, e := First(s)
	if e != api.OK {
		return api.Item{}, e
	}
	if n < len(s) {
		return api.Item{}, api.ErrRest
	}
	return x, api.OK
}

// First is the item that a text begins with, and how many bytes that has.
func First(s string) (api.Item, int, api.Errno) {
	return read(s, place{})
}

// Same tells whether two items are the same.
func Same(a, b api.Item) bool {
	return level(0).same(a, b)
}

// level is in how many others the items stand that are compared.
type level int

func (d level) same(a, b api.Item) bool {
	// Without an end to the levels an item that holds itself would never be done.
	if d > deepest || a.Node != b.Node || a.Tag != b.Tag || a.S != b.S {
		return false
	}
	return slices.EqualFunc(a.L, b.L, (d + 1).same)
}
