// Package prim is layer 1: see shared/doc/01-prim.md.
package prim

import (
	"cmp"

	"stencil/api"
)

// Size is how many bytes a value of a primitive type takes; 0 of what is none.
func Size(p api.Prim) int { return kindOf(p).size }

// Signed tells whether a type has numbers below 0 (its words are then sign extended).
func Signed(p api.Prim) bool { return kindOf(p).reading == signed }

// Null, Min and Max are a type's null value, least and greatest one, as words.
func Null(p api.Prim) uint64 { return kindOf(p).null }
func Min(p api.Prim) uint64  { return kindOf(p).min }
func Max(p api.Prim) uint64  { return kindOf(p).max }

// Fits tells whether a word is one of the type's.
func Fits(p api.Prim, w uint64) bool { return kindOf(p).fits(w) }

// Compare compares two words of a type as the values that they are: -1, 0, 1.
func Compare(p api.Prim, a, b uint64) int {
	k := kindOf(p)
	if !k.fits(a) || !k.fits(b) {
		return 0
	}
	return cmp.Compare(k.rank(a), k.rank(b))
}

// Get reads a value out of b, from the place at on.
func Get(b []byte, at int, p api.Prim, o api.Endian) (uint64, api.Errno) {
	k, shift := kindOf(p), shiftOf(o)
	if !k.isType() || shift == nil {
		return 0, api.ErrPrim
	}
	if !within(b, at, k.size) {
		return 0, api.ErrShort
	}
	var bits uint64
	for i := range k.size {
		bits |= uint64(b[at+i]) << shift(i, k.size)
	}
	return k.word(bits), api.OK
}

// Put writes a value into b.
func Put(b []byte, at int, p api.Prim, o api.Endian, w uint64) api.Errno {
	k, shift := kindOf(p), shiftOf(o)
	if !k.isType() || shift == nil {
		return api.ErrPrim
	}
	if !k.fits(w) {
		return api.ErrRange
	}
	if !within(b, at, k.size) {
		return api.ErrShort
	}
	for i := range k.size {
		b[at+i] = byte(w >> shift(i, k.size))
	}
	return api.OK
}

// GetChars reads n bytes as a text.
func GetChars(b []byte, at, n int) (string, api.Errno) {
	if !within(b, at, n) {
		return "", api.ErrShort
	}
	return string(b[at : at+n]), api.OK
}

// PutChars writes a text into n bytes, zeros behind it.
func PutChars(b []byte, at, n int, s string) api.Errno {
	if !within(b, at, n) {
		return api.ErrShort
	}
	if len(s) > n {
		return api.ErrChars
	}
	room := b[at : at+n]
	clear(room[copy(room, s):])
	return api.OK
}

// within takes n off the length, where at and n added up might wrap.
func within(b []byte, at, n int) bool {
	return at >= 0 && n >= 0 && at <= len(b)-n
}
