package number

import "math/big"

// Ten to farExponent lies above all finite values, and ten to -farExponent is rounded to zero. No value, and no number halfway between two, has more than manyDigits digits.
const (
	farExponent = 400
	manyDigits  = 800
)

// nearest is the word nearest to the number, without its sign; from infinity on, if that is beyond the type.
func (f format) nearest(d decimal) uint64 {
	if d.digits == "" || d.exponent < -farExponent {
		return 0
	}
	if d.exponent > farExponent {
		return f.infinity
	}
	r := ratioOf(d.cut())
	unit := max(r.log2()-f.fraction, f.least)
	// The highest bit of a number that isn't subnormal adds one to the exponent; so does a round up to the next power of two.
	return uint64(unit-f.least)<<f.fraction + r.count(unit)
}

// cut bounds the digits: of all that follow it matters only that they aren't all 0.
func (d decimal) cut() decimal {
	if len(d.digits) > manyDigits {
		d.digits = d.digits[:manyDigits] + "1"
	}
	return d
}

// ratio is a number above 0.
type ratio struct{ over, under *big.Int }

func ratioOf(d decimal) ratio {
	over, _ := new(big.Int).SetString(d.digits, 10)
	under := big.NewInt(1)
	if power := d.exponent - len(d.digits); power < 0 {
		under = tenTo(-power)
	} else {
		over.Mul(over, tenTo(power))
	}
	return ratio{over, under}
}

func tenTo(n int) *big.Int {
	return new(big.Int).Exp(big.NewInt(10), big.NewInt(int64(n)), nil)
}

// per is the ratio divided by two to the power n.
func (r ratio) per(n int) ratio {
	if n < 0 {
		return ratio{new(big.Int).Lsh(r.over, uint(-n)), r.under}
	}
	return ratio{r.over, new(big.Int).Lsh(r.under, uint(n))}
}

// log2 is the greatest power of two that isn't above the ratio.
func (r ratio) log2() int {
	n := r.over.BitLen() - r.under.BitLen()
	if q := r.per(n); q.over.Cmp(q.under) < 0 {
		return n - 1
	}
	return n
}

// count is how many times two to the power n the ratio is, rounded to the nearest whole number, of two as near to the even one.
func (r ratio) count(n int) uint64 {
	q := r.per(n)
	times, rest := new(big.Int).QuoRem(q.over, q.under, new(big.Int))
	count := times.Uint64()
	side := rest.Lsh(rest, 1).Cmp(q.under)
	if side > 0 || side == 0 && count%2 == 1 {
		count++
	}
	return count
}
