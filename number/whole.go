package number

import (
	"strconv"

	"stencil/api"
	"stencil/prim"
)

// whole reads and writes the numbers of one of the signed and unsigned types.
type whole struct{ prim api.Prim }

func (k whole) read(s string) (uint64, api.Errno, int) {
	return either(s, k.decimal, k.hex)
}

func (k whole) decimal(s string) (uint64, api.Errno, int) {
	r := scanner{s: s}
	sign := r.run("+-", 1)
	digits := r.run(decimalDigits, len(s))
	if digits == "" || !r.ended() {
		return r.noNumber()
	}
	return k.word(sign == "-", digits, 10)
}

func (k whole) hex(s string) (uint64, api.Errno, int) {
	r := scanner{s: s}
	digits := r.hex(len(s))
	if digits == "" || !r.ended() {
		return r.noNumber()
	}
	return k.word(false, digits, 16)
}

func (k whole) word(minus bool, digits string, base int) (uint64, api.Errno, int) {
	n, err := strconv.ParseUint(digits, base, 64)
	w := n
	if minus {
		w = -n
	}
	// A number of 64 bits may wrap to a word of the type: it has the other sign then.
	wrapped := k.isBelow0(w) != (minus && n > 0)
	if err != nil || wrapped || !prim.Fits(k.prim, w) {
		return 0, api.ErrTooBig, 0
	}
	return w, api.OK, 0
}

func (k whole) isBelow0(w uint64) bool { return prim.Signed(k.prim) && int64(w) < 0 }

func (k whole) write(w uint64) string {
	if k.isBelow0(w) {
		return strconv.FormatInt(int64(w), 10)
	}
	return strconv.FormatUint(w, 10)
}
