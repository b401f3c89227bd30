package number

import (
	"strings"

	"stencil/api"
)

const (
	decimalDigits = "0123456789"
	hexDigits     = decimalDigits + "abcdefABCDEF"
)

// scanner goes through a text from the left; it never passes a byte that can't stand there, so that at tells a fault's place.
type scanner struct {
	s  string
	at int
}

// run takes the bytes next to come that are of the set, at most most of them.
func (r *scanner) run(set string, most int) string {
	rest := r.s[r.at:]
	rest = rest[:min(most, len(rest))]
	taken := rest[:len(rest)-len(strings.TrimLeft(rest, set))]
	r.at += len(taken)
	return taken
}

// hex takes 0x and at most most digits; it answers the digits.
func (r *scanner) hex(most int) string {
	if r.run("0", 1) == "" || r.run("xX", 1) == "" {
		return ""
	}
	return r.run(hexDigits, most)
}

func (r *scanner) ended() bool { return r.at == len(r.s) }

// noNumber is what a reader answers that can't go on.
func (r *scanner) noNumber() (uint64, api.Errno, int) { return 0, api.ErrNumber, r.at }

// either reads a text that may be of several forms. A text that is of none is faulty where the form that reads farthest stops.
func either(s string, forms ...func(string) (uint64, api.Errno, int)) (uint64, api.Errno, int) {
	farthest := 0
	for _, read := range forms {
		w, err, at := read(s)
		if err != api.ErrNumber {
			return w, err, at
		}
		farthest = max(farthest, at)
	}
	return 0, api.ErrNumber, farthest
}
