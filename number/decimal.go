package number

import (
	"math"
	"strings"

	"stencil/api"
)

// decimal is the number 0.DIGITS times ten to the exponent. The first and the last digit aren't 0; the number 0 has none.
type decimal struct {
	minus    bool
	digits   string
	exponent int
}

// decimal takes as much as a number can have; false, if that isn't one.
func (r *scanner) decimal() (decimal, bool) {
	minus := r.run("+-", 1) == "-"
	ahead, behind := r.run(decimalDigits, len(r.s)), ""
	if r.run(".", 1) != "" {
		behind = r.run(decimalDigits, len(r.s))
	}
	all := ahead + behind
	if all == "" {
		return decimal{}, false
	}
	exponent, ok := r.exponent()
	digits := strings.TrimLeft(all, "0")
	exponent += len(ahead) - (len(all) - len(digits))
	return decimal{minus, strings.TrimRight(digits, "0"), exponent}, ok
}

// exponent is 0 where none stands. One that is beyond all texts' lengths is told as the greatest, from which no digits of the text can bring the number back.
func (r *scanner) exponent() (int, bool) {
	if r.run("eE", 1) == "" {
		return 0, true
	}
	sign := r.run("+-", 1)
	digits := r.run(decimalDigits, len(r.s))
	const greatest = math.MaxInt / 2
	n, err, _ := Int(digits, greatest)
	if err == api.ErrTooBig {
		n = greatest
	}
	if sign == "-" {
		n = -n
	}
	return n, digits != ""
}
