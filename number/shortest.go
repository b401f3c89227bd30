package number

import (
	"math/big"
	"strconv"
	"strings"

	"stencil/prim"
)

func (f format) write(w uint64) string {
	sign := ""
	if w&f.sign != 0 {
		sign = "-"
	}
	size := w &^ f.sign
	switch {
	case w == prim.Null(f.prim):
		return "NaN"
	case size > f.infinity:
		// Such a word begins with the digit 7 or F: no zeros are wanting at the front.
		return "0x" + strings.ToUpper(strconv.FormatUint(w, 16))
	case size == f.infinity:
		return sign + "INF"
	case size == 0:
		return sign + "0"
	}
	return sign + f.shortest(size).text()
}

// text lays digits out in the one of four ways that the exponent asks for.
func (d decimal) text() string {
	n, e := len(d.digits), d.exponent
	switch {
	case n <= e && e <= 21:
		return d.digits + strings.Repeat("0", e-n)
	case 0 < e && e < n:
		return d.digits[:e] + "." + d.digits[e:]
	case -6 < e && e <= 0:
		return "0." + strings.Repeat("0", -e) + d.digits
	}
	first, others := d.digits[:1], d.digits[1:]
	if others != "" {
		first += "."
	}
	return first + others + "e" + strconv.Itoa(e-1)
}

// shortest tells digits from the highest on, till what is left over lies so near to a digit's end that the number is read as the word all the same.
func (f format) shortest(size uint64) decimal {
	g := f.gapOf(size)
	exponent := g.scale()
	var digits []byte
	for {
		digit := g.next()
		low, high := g.down(), g.up()
		if high && (!low || g.nearerUp(digit)) {
			digit++
		}
		digits = append(digits, '0'+digit)
		if low || high {
			return decimal{digits: string(digits), exponent: exponent}
		}
	}
}

// gap is a value and all numbers about it that are read as its word. All four are counted in the same measure.
type gap struct {
	rest         *big.Int // what of the value isn't told by digits yet
	above, below *big.Int // how far the numbers reach
	unit         *big.Int // what the last digit counts
	ends         bool     // whether the farthest numbers are read as the word too: a tie goes to the even one
}

func (f format) gapOf(size uint64) *gap {
	exponent := int(size >> f.fraction)
	count := size - uint64(exponent)<<f.fraction
	below := int64(2)
	if exponent > 1 && count == 0 {
		below = 1 // the values below lie twice as close, at all powers of two but the least
	}
	if exponent > 0 {
		count += 1 << f.fraction
		exponent--
	}
	// In quarters of the lowest bit all of these are whole.
	g := &gap{
		rest:  new(big.Int).SetUint64(count * 4),
		above: big.NewInt(2),
		below: big.NewInt(below),
		unit:  big.NewInt(1),
		ends:  count%2 == 0,
	}
	if quarter := f.least + exponent - 2; quarter < 0 {
		g.unit.Lsh(g.unit, uint(-quarter))
	} else {
		g.times(new(big.Int).Lsh(g.unit, uint(quarter)))
	}
	return g
}

// times makes the measure finer, the unit smaller.
func (g *gap) times(n *big.Int) {
	for _, x := range []*big.Int{g.rest, g.above, g.below} {
		x.Mul(x, n)
	}
}

// scale makes the unit the least power of ten above the whole gap, and answers the power.
func (g *gap) scale() int {
	// A few more digits of log10(2) would do no better: one too few is made good below.
	exponent := (g.rest.BitLen() - g.unit.BitLen() - 1) * 30103 / 100000
	if exponent < 0 {
		g.times(tenTo(-exponent))
	} else {
		g.unit.Mul(g.unit, tenTo(exponent))
	}
	for g.up() {
		g.unit.Mul(g.unit, big.NewInt(10))
		exponent++
	}
	return exponent
}

// next takes the next digit off the rest.
func (g *gap) next() byte {
	g.times(big.NewInt(10))
	digit, _ := new(big.Int).QuoRem(g.rest, g.unit, g.rest)
	return byte(digit.Uint64())
}

// down tells whether the digits told so far are enough as they are.
func (g *gap) down() bool {
	side := g.rest.Cmp(g.below)
	return side < 0 || side == 0 && g.ends
}

// up tells whether they are with one more in the last place.
func (g *gap) up() bool {
	side := new(big.Int).Add(g.rest, g.above).Cmp(g.unit)
	return side > 0 || side == 0 && g.ends
}

// nearerUp tells whether one more in the last place is nearer to the value, or as near and even.
func (g *gap) nearerUp(digit byte) bool {
	side := new(big.Int).Lsh(g.rest, 1).Cmp(g.unit)
	return side > 0 || side == 0 && digit%2 == 1
}
