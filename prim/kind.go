package prim

import "stencil/api"

// reading is what value a type's words stand for: width and null alone don't tell how two of them compare.
type reading int

const (
	natural reading = iota // the word is the number
	signed                 // the word is an int64's bits
	pattern                // the word is an IEEE pattern: a sign ahead of a magnitude
)

// kind is all that tells one primitive type from another.
type kind struct {
	size           int
	reading        reading
	null, min, max uint64
}

var kinds = [...]kind{
	api.Char:   {1, natural, 0, 32, 126},
	api.Int8:   {1, signed, 0xFFFFFFFFFFFFFF80, 0xFFFFFFFFFFFFFF81, 0x7F},
	api.Int16:  {2, signed, 0xFFFFFFFFFFFF8000, 0xFFFFFFFFFFFF8001, 0x7FFF},
	api.Int32:  {4, signed, 0xFFFFFFFF80000000, 0xFFFFFFFF80000001, 0x7FFFFFFF},
	api.Int64:  {8, signed, 0x8000000000000000, 0x8000000000000001, 0x7FFFFFFFFFFFFFFF},
	api.Uint8:  {1, natural, 0xFF, 0, 0xFE},
	api.Uint16: {2, natural, 0xFFFF, 0, 0xFFFE},
	api.Uint32: {4, natural, 0xFFFFFFFF, 0, 0xFFFFFFFE},
	api.Uint64: {8, natural, 0xFFFFFFFFFFFFFFFF, 0, 0xFFFFFFFFFFFFFFFE},
	api.Float:  {4, pattern, 0x7FC00000, 0, 0xFFFFFFFF},
	api.Double: {8, pattern, 0x7FF8000000000000, 0, 0xFFFFFFFFFFFFFFFF},
}

// kindOf answers the zero kind of what is no type, so that its size 0 tells it from all types.
func kindOf(p api.Prim) kind {
	if p < 0 || int(p) >= len(kinds) {
		return kind{}
	}
	return kinds[p]
}

func (k kind) isType() bool { return k.size > 0 }

// word makes the type's word of the lowest bits of any number; the words of the type are just those that it leaves as they are.
func (k kind) word(bits uint64) uint64 {
	spare := 64 - 8*k.size
	if k.reading == signed {
		return uint64(int64(bits<<spare) >> spare)
	}
	return bits << spare >> spare
}

func (k kind) fits(w uint64) bool { return k.isType() && k.word(w) == w }

// rank maps words of the type to numbers that stand in the same order as the values, so that one comparison serves all types.
func (k kind) rank(w uint64) uint64 {
	switch k.reading {
	case signed:
		return w ^ 1<<63
	case pattern:
		return k.patternRank(w)
	}
	return w
}

func (k kind) patternRank(w uint64) uint64 {
	sign := uint64(1) << (8*k.size - 1)
	if w&sign != 0 {
		return k.word(^w)
	}
	return w | sign
}
