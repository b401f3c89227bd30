package number

import (
	"strconv"

	"stencil/api"
	"stencil/prim"
)

// format is what tells one width of IEEE's binary numbers from the other. Words are put together and taken apart as whole numbers: no float is ever made of one.
type format struct {
	prim     api.Prim
	digits   int    // a word's hex digits
	fraction int    // bits of a word below its exponent
	least    int    // the power of two that a subnormal number's lowest bit stands for
	infinity uint64 // without a sign; what lies above is no number
	sign     uint64
}

var formats = [...]format{
	{api.Float, 8, 23, -149, 0x7F800000, 0x80000000},
	{api.Double, 16, 52, -1074, 0x7FF0000000000000, 0x8000000000000000},
}

func (f format) read(s string) (uint64, api.Errno, int) {
	return either(s, f.name, f.pattern, f.decimal)
}

func (f format) name(s string) (uint64, api.Errno, int) {
	farthest := 0
	for _, name := range []struct {
		text string
		word uint64
	}{
		{"NaN", prim.Null(f.prim)},
		{"INF", f.infinity},
		{"+INF", f.infinity},
		{"-INF", f.infinity | f.sign},
	} {
		if s == name.text {
			return name.word, api.OK, 0
		}
		farthest = max(farthest, common(s, name.text))
	}
	return 0, api.ErrNumber, farthest
}

// common is how many bytes two texts begin with alike.
func common(a, b string) int {
	n := 0
	for n < len(a) && n < len(b) && a[n] == b[n] {
		n++
	}
	return n
}

func (f format) pattern(s string) (uint64, api.Errno, int) {
	r := scanner{s: s}
	digits := r.hex(f.digits)
	w, err := strconv.ParseUint(digits, 16, 64)
	if err != nil || len(digits) < f.digits || !r.ended() {
		return r.noNumber()
	}
	return w, api.OK, 0
}

func (f format) decimal(s string) (uint64, api.Errno, int) {
	r := scanner{s: s}
	d, ok := r.decimal()
	if !ok || !r.ended() {
		return r.noNumber()
	}
	w := f.nearest(d)
	if w >= f.infinity {
		return 0, api.ErrTooBig, 0
	}
	if d.minus {
		w |= f.sign
	}
	return w, api.OK, 0
}
