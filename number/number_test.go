package number_test

import (
	"math"
	"math/big"
	"math/rand"
	"regexp"
	"slices"
	"strconv"
	"strings"
	"testing"

	"stencil/api"
	"stencil/number"
	"stencil/prim"
)

var wholes = []api.Prim{api.Int8, api.Int16, api.Int32, api.Int64, api.Uint8, api.Uint16, api.Uint32, api.Uint64}

func neg(n uint64) uint64 { return -n }

func holdParse(t *testing.T, p api.Prim, s string, w uint64, err api.Errno, at int) {
	t.Helper()
	gotW, gotErr, gotAt := number.Parse(p, s)
	if gotW != w || gotErr != err || gotAt != at {
		t.Errorf("Parse(%d, %.80q) = %#x, %d, %d; want %#x, %d, %d", p, s, gotW, gotErr, gotAt, w, err, at)
	}
}

func holdPrint(t *testing.T, p api.Prim, w uint64, s string, err api.Errno) {
	t.Helper()
	got, gotErr := number.Print(p, w)
	if got != s || gotErr != err {
		t.Errorf("Print(%d, %#x) = %q, %d; want %q, %d", p, w, got, gotErr, s, err)
	}
}

// P3.1: what is no type is refused ahead of all else.
func TestParseNoType(t *testing.T) {
	for _, p := range []api.Prim{-1, 11, 12, math.MinInt, math.MaxInt} {
		for _, s := range []string{"", "1", "x", "NaN", "#"} {
			holdParse(t, p, s, 0, api.ErrPrim, 0)
		}
	}
}

// ends are the least and the greatest number of a whole number's type.
func ends(p api.Prim) (least, greatest *big.Int) {
	width := uint(8 * prim.Size(p))
	one := big.NewInt(1)
	if !prim.Signed(p) {
		return new(big.Int), new(big.Int).Sub(new(big.Int).Lsh(one, width), one)
	}
	half := new(big.Int).Lsh(one, width-1)
	return new(big.Int).Neg(half), new(big.Int).Sub(half, one)
}

// wordOf is the word of a number that is one of a type.
func wordOf(n *big.Int) uint64 {
	if n.Sign() < 0 {
		return neg(new(big.Int).Neg(n).Uint64())
	}
	return n.Uint64()
}

// P3.1: the numbers about the ends of every type, in every form that says them.
func TestParseWholeEnds(t *testing.T) {
	marks := []*big.Int{new(big.Int)}
	for _, p := range wholes {
		least, greatest := ends(p)
		marks = append(marks, least, greatest)
	}
	marks = append(marks, new(big.Int).Lsh(big.NewInt(1), 65), new(big.Int).Lsh(big.NewInt(-1), 64), new(big.Int).Lsh(big.NewInt(-1), 65))
	for _, p := range wholes {
		least, greatest := ends(p)
		for _, mark := range marks {
			for d := int64(-2); d <= 2; d++ {
				n := new(big.Int).Add(mark, big.NewInt(d))
				w, err := uint64(0), api.ErrTooBig
				if n.Cmp(least) >= 0 && n.Cmp(greatest) <= 0 {
					w, err = wordOf(n), api.OK
				}
				for _, s := range textsOf(n) {
					holdParse(t, p, s, w, err, 0)
				}
			}
		}
		null, err, _ := number.Parse(p, printed(p, prim.Null(p)))
		if null != prim.Null(p) || err != api.OK {
			t.Errorf("type %d: the null value is read as %#x, %d", p, null, err)
		}
	}
}

// textsOf are texts of all forms that say n.
func textsOf(n *big.Int) []string {
	digits, hex := new(big.Int).Abs(n).String(), new(big.Int).Abs(n).Text(16)
	if n.Sign() < 0 {
		return []string{"-" + digits, "-0" + digits, "-" + strings.Repeat("0", 40) + digits}
	}
	texts := []string{digits, "+" + digits, "00" + digits, "+" + strings.Repeat("0", 40) + digits,
		"0x" + hex, "0X" + strings.ToUpper(hex), "0x" + strings.Repeat("0", 40) + hex}
	if n.Sign() == 0 {
		texts = append(texts, "-0", "-000")
	}
	return texts
}

func printed(p api.Prim, w uint64) string {
	s, _ := number.Print(p, w)
	return s
}

// form is a kind of texts: all of a text, and what texts of the form begin with.
type form struct{ all, begins *regexp.Regexp }

func formOf(all, begins string) form {
	return form{regexp.MustCompile(`^(?:` + all + `)$`), regexp.MustCompile(`^(?:` + begins + `)$`)}
}

// fault is the greatest place up to which the text begins one of the form.
func (f form) fault(s string) int {
	for p := len(s); p > 0; p-- {
		if f.begins.MatchString(s[:p]) {
			return p
		}
	}
	return 0
}

var (
	wholeForm  = formOf(`[+-]?[0-9]+|0[xX][0-9a-fA-F]+`, `[+-]?[0-9]*|0[xX][0-9a-fA-F]*`)
	singleForm = floatForm("8")
	doubleForm = floatForm("16")
)

func floatForm(n string) form {
	return formOf(
		`NaN|[+-]?INF|0[xX][0-9a-fA-F]{`+n+`}|[+-]?(?:[0-9]+\.?[0-9]*|\.[0-9]+)(?:[eE][+-]?[0-9]+)?`,
		`N|Na|NaN|[+-]?(?:|I|IN|INF)|0[xX][0-9a-fA-F]{0,`+n+`}|[+-]?\.?|[+-]?(?:[0-9]+\.?[0-9]*|\.[0-9]+)(?:[eE][+-]?[0-9]*)?`)
}

// holdForm holds a text against a form: it is taken just if it is of the form, unless it says too much, and a fault is told at its place.
func holdForm(t *testing.T, p api.Prim, f form, s string) {
	t.Helper()
	w, err, at := number.Parse(p, s)
	if f.all.MatchString(s) {
		if err != api.OK && err != api.ErrTooBig || at != 0 || err != api.OK && w != 0 {
			t.Errorf("Parse(%d, %q) = %#x, %d, %d, though it is of the form", p, s, w, err, at)
		}
		return
	}
	if want := f.fault(s); w != 0 || err != api.ErrNumber || at != want {
		t.Errorf("Parse(%d, %q) = %#x, %d, %d; want 0, %d, %d", p, s, w, err, at, api.ErrNumber, want)
	}
}

// eachText calls hold with all texts over the pieces, of up to most pieces.
func eachText(pieces []string, most int, hold func(string)) {
	var grow func(s string, left int)
	grow = func(s string, left int) {
		hold(s)
		if left == 0 {
			return
		}
		for _, piece := range pieces {
			grow(s+piece, left-1)
		}
	}
	grow("", most)
}

// P3.1: which texts are whole numbers, and where the others are faulty.
func TestParseWholeForm(t *testing.T) {
	pieces := []string{"0", "7", "9", "a", "F", "g", "x", "X", "+", "-", ".", " ", "e", "\x00", "\xC3"}
	eachText(pieces, 4, func(s string) { holdForm(t, api.Int64, wholeForm, s) })
	for _, p := range wholes {
		eachText(pieces, 3, func(s string) { holdForm(t, p, wholeForm, s) })
	}
}

// P3.1: a byte that can't stand there is told ahead of a number that is too big.
func TestParseFaultAheadOfTooBig(t *testing.T) {
	holdParse(t, api.Uint8, "999x", 0, api.ErrNumber, 3)
	holdParse(t, api.Uint8, "-999 ", 0, api.ErrNumber, 4)
	holdParse(t, api.Int64, "99999999999999999999999,", 0, api.ErrNumber, 23)
	holdParse(t, api.Uint16, "0x10000g", 0, api.ErrNumber, 7)
	holdParse(t, api.Float, "1e999x", 0, api.ErrNumber, 5)
	holdParse(t, api.Double, "1e999.", 0, api.ErrNumber, 5)
}

// P3.1: every byte stands in whole numbers' texts where it may, and nowhere else.
func TestParseEveryByte(t *testing.T) {
	for c := range 256 {
		for _, ahead := range []string{"", "0", "1", "-", "+", "0x", "0x1", ".", "1.", "1e", "1e-", "N", "Na", "I", "-I", "-IN"} {
			for _, behind := range []string{"", "1", "F"} {
				s := ahead + string([]byte{byte(c)}) + behind
				holdForm(t, api.Uint16, wholeForm, s)
				holdForm(t, api.Float, singleForm, s)
				holdForm(t, api.Double, doubleForm, s)
			}
		}
	}
}

// P3.1: characters by one byte and by number.
func TestParseChar(t *testing.T) {
	for c := range 256 {
		s := string([]byte{byte(c)})
		if c >= 32 && c <= 126 {
			holdParse(t, api.Char, s, uint64(c), api.OK, 0)
		} else {
			holdParse(t, api.Char, s, 0, api.ErrOneChar, 0)
		}
		holdParse(t, api.Char, "#"+strconv.Itoa(c), uint64(c), api.OK, 0)
		holdParse(t, api.Char, "#000"+strconv.Itoa(c), uint64(c), api.OK, 0)
		if c < '0' || c > '9' {
			holdParse(t, api.Char, "#"+s, 0, api.ErrOneChar, 0)
			holdParse(t, api.Char, "#1"+s, 0, api.ErrOneChar, 0)
			holdParse(t, api.Char, "#999"+s, 0, api.ErrOneChar, 0)
			holdParse(t, api.Char, "#"+s+"1", 0, api.ErrOneChar, 0)
			holdParse(t, api.Char, s+"1", map[bool]uint64{true: 1}[c == '#'], map[bool]api.Errno{true: api.OK, false: api.ErrOneChar}[c == '#'], 0)
		}
	}
	for _, s := range []string{"#256", "#0256", "#999", "#1000", "#18446744073709551616", "#" + strings.Repeat("9", 100)} {
		holdParse(t, api.Char, s, 0, api.ErrTooBig, 0)
	}
	for _, s := range []string{"", "AB", "##", "#-1", "#+1", "#0x1", "# 1", "é", "12", " 1", "A "} {
		holdParse(t, api.Char, s, 0, api.ErrOneChar, 0)
	}
}

// P3.1: which texts are floats, and where the others are faulty.
func TestParseFloatForm(t *testing.T) {
	pieces := []string{"0", "7", "x", "X", "+", "-", ".", ".5", "e", "E-", "N", "a", "NaN", "INF", "I", "F", " "}
	eachText(pieces, 4, func(s string) { holdForm(t, api.Float, singleForm, s) })
	eachText(pieces, 4, func(s string) { holdForm(t, api.Double, doubleForm, s) })
}

// P3.1: a word in hex has just 8 or just 16 digits.
func TestParseFloatWord(t *testing.T) {
	for _, mark := range []string{"0x", "0X"} {
		for n := range 20 {
			digits := "fEdCbA9876543210fEdCbA98"[:n]
			holdForm(t, api.Float, singleForm, mark+digits)
			holdForm(t, api.Double, doubleForm, mark+digits)
			holdForm(t, api.Float, singleForm, mark+digits+"g")
			holdForm(t, api.Double, doubleForm, mark+digits+"g")
		}
	}
	holdParse(t, api.Float, "0xfEdCbA98", 0xFEDCBA98, api.OK, 0)
	holdParse(t, api.Float, "0X00000000", 0, api.OK, 0)
	holdParse(t, api.Float, "0xffffffff", 0xFFFFFFFF, api.OK, 0)
	holdParse(t, api.Float, "0x7f800001", 0x7F800001, api.OK, 0)
	holdParse(t, api.Double, "0XfEdCbA9876543210", 0xFEDCBA9876543210, api.OK, 0)
	holdParse(t, api.Double, "0xFFFFFFFFFFFFFFFF", math.MaxUint64, api.OK, 0)
	holdParse(t, api.Float, "0x1234567", 0, api.ErrNumber, 9)
	holdParse(t, api.Float, "0x123456789", 0, api.ErrNumber, 10)
	holdParse(t, api.Double, "0x123456789012345", 0, api.ErrNumber, 17)
	holdParse(t, api.Double, "0x12345678901234567", 0, api.ErrNumber, 18)
	holdParse(t, api.Double, "0x12345678", 0, api.ErrNumber, 10)
}

// P3.1: the names of what is no finite number, just so.
func TestParseFloatNames(t *testing.T) {
	holdParse(t, api.Float, "NaN", 0x7FC00000, api.OK, 0)
	holdParse(t, api.Float, "INF", 0x7F800000, api.OK, 0)
	holdParse(t, api.Float, "+INF", 0x7F800000, api.OK, 0)
	holdParse(t, api.Float, "-INF", 0xFF800000, api.OK, 0)
	holdParse(t, api.Double, "NaN", 0x7FF8000000000000, api.OK, 0)
	holdParse(t, api.Double, "INF", 0x7FF0000000000000, api.OK, 0)
	holdParse(t, api.Double, "+INF", 0x7FF0000000000000, api.OK, 0)
	holdParse(t, api.Double, "-INF", 0xFFF0000000000000, api.OK, 0)
	for s, at := range map[string]int{"nan": 0, "NAN": 1, "Nan": 2, "NaNa": 3, "+NaN": 1, "-NaN": 1, "inf": 0, "Inf": 1, "INf": 2, "INFI": 3, "+INFINITY": 4, "Infinity": 1, "N": 1, "I": 1, "-I": 2, "+IN": 3, "--INF": 1} {
		holdParse(t, api.Float, s, 0, api.ErrNumber, at)
		holdParse(t, api.Double, s, 0, api.ErrNumber, at)
	}
}

// width is what the tests know of a type of floats.
type width struct {
	prim     api.Prim
	bits     int
	fraction uint
	bias     int
	infinity uint64
}

var widths = []width{
	{api.Float, 32, 23, 127, 0x7F800000},
	{api.Double, 64, 52, 1023, 0x7FF0000000000000},
}

func (d width) sign() uint64 { return 1 << (d.bits - 1) }

// exact is the value of a word below infinity; of infinity itself what would stand there if there were one more exponent.
func (d width) exact(w uint64) *big.Rat {
	exponent, count := int(w>>d.fraction), w&(1<<d.fraction-1)
	if exponent == 0 {
		exponent = 1
	} else {
		count |= 1 << d.fraction
	}
	power := exponent - d.bias - int(d.fraction)
	shift := new(big.Int).Lsh(big.NewInt(1), uint(max(power, -power)))
	r := new(big.Rat).SetInt(new(big.Int).SetUint64(count))
	if power < 0 {
		return r.Quo(r, new(big.Rat).SetInt(shift))
	}
	return r.Mul(r, new(big.Rat).SetInt(shift))
}

// middle lies halfway between the word's value and the next one.
func (d width) middle(w uint64) *big.Rat {
	sum := new(big.Rat).Add(d.exact(w), d.exact(w+1))
	return sum.Quo(sum, big.NewRat(2, 1))
}

// isRead tells by the chapter's words whether the number is read as the word.
func (d width) isRead(x *big.Rat, w uint64) bool {
	above := x.Cmp(d.middle(w))
	below := 1
	if w > 0 {
		below = x.Cmp(d.middle(w - 1))
	}
	even := w%2 == 0
	return (above < 0 || above == 0 && even) && (below > 0 || below == 0 && even)
}

// pointed writes all digits of a number whose digits end, with a point.
func pointed(r *big.Rat) string {
	return r.FloatString(max(1, r.Denom().BitLen()-1))
}

// sample is words of a type, without a sign: all edges, and many by chance.
func (d width) sample(r *rand.Rand, n int) []uint64 {
	words := []uint64{1, 2, 3, d.infinity - 1, d.infinity - 2, d.infinity / 2}
	for exponent := range d.infinity >> d.fraction {
		at := exponent << d.fraction
		if d.bits == 32 || exponent < 70 || exponent > 1950 || exponent%37 == 0 || exponent > 960 && exponent < 1100 {
			words = append(words, at+1, at+2, at+1<<d.fraction-1)
			if at > 0 {
				words = append(words, at, at-1)
			}
		}
	}
	for range n {
		words = append(words, 1+r.Uint64()%(d.infinity-1))
		words = append(words, 1+r.Uint64()%(1<<d.fraction))
	}
	return slices.DeleteFunc(words, func(w uint64) bool { return w == 0 || w >= d.infinity })
}

// P3.1: a number is read as the nearest value, a tie as the even one; the digits that decide may stand far behind.
func TestParseTies(t *testing.T) {
	r := rand.New(rand.NewSource(3))
	for _, d := range widths {
		for _, w := range d.sample(r, 60) {
			middle, even, greatest := pointed(d.middle(w)), w+w%2, w+1 == d.infinity
			holdRounded(t, d, pointed(d.exact(w)), w)
			holdRounded(t, d, middle, even)
			holdRounded(t, d, middle+"0000", even)
			holdRounded(t, d, lower(middle), w)
			holdRounded(t, d, middle+strings.Repeat("0", 900)+"1", w+1)
			if greatest && even != d.infinity {
				t.Errorf("the greatest value of type %d should be odd", d.prim)
			}
		}
	}
}

// lower is a text of many digits that says a number a little below that of s, a text with a point.
func lower(s string) string {
	if ahead, ok := strings.CutSuffix(s, ".0"); ok {
		n, _ := new(big.Int).SetString(ahead, 10)
		return n.Sub(n, big.NewInt(1)).String() + "." + strings.Repeat("9", 900)
	}
	last := s[len(s)-1]
	return s[:len(s)-1] + string(rune(last-1)) + strings.Repeat("9", 900)
}

// holdRounded holds what is read of a finite number, with and without a minus.
func holdRounded(t *testing.T, d width, s string, w uint64) {
	t.Helper()
	if w >= d.infinity {
		holdParse(t, d.prim, s, 0, api.ErrTooBig, 0)
		holdParse(t, d.prim, "-"+s, 0, api.ErrTooBig, 0)
		return
	}
	holdParse(t, d.prim, s, w, api.OK, 0)
	holdParse(t, d.prim, "+"+s, w, api.OK, 0)
	holdParse(t, d.prim, "-"+s, w|d.sign(), api.OK, 0)
}

// P3.1: what lies about half of the least value, and about half a step beyond the greatest.
func TestParseAtTheEnds(t *testing.T) {
	for _, d := range widths {
		half := pointed(d.middle(0))
		holdRounded(t, d, half, 0)
		holdRounded(t, d, lower(half), 0)
		holdRounded(t, d, half+"1", 1)
		beyond := pointed(d.middle(d.infinity - 1))
		holdRounded(t, d, beyond, d.infinity)
		holdRounded(t, d, lower(beyond), d.infinity-1)
		holdRounded(t, d, beyond+"1", d.infinity)
	}
	holdRounded(t, widths[0], "3.4028235677973366e38", 0x7F7FFFFF)
	holdRounded(t, widths[0], "3.4028235677973367e38", widths[0].infinity)
	holdRounded(t, widths[1], "1.797693134862315807e308", widths[1].infinity-1)
	holdRounded(t, widths[1], "1.797693134862315808e308", widths[1].infinity)
}

// P3.1: numbers by chance against a reader of another make, and against the chapter's own words.
func TestParseFloatByChance(t *testing.T) {
	r := rand.New(rand.NewSource(4))
	for range 40000 {
		s := chanceNumber(r)
		x, _ := new(big.Rat).SetString(s)
		for _, d := range widths {
			v, err := strconv.ParseFloat(s, d.bits)
			w := math.Float64bits(v)
			if d.bits == 32 {
				w = uint64(math.Float32bits(float32(v)))
			}
			if err != nil {
				holdParse(t, d.prim, s, 0, api.ErrTooBig, 0)
				continue
			}
			holdParse(t, d.prim, s, w, api.OK, 0)
			if size := w &^ d.sign(); !d.isRead(new(big.Rat).Abs(x), size) {
				t.Errorf("%q should not be the word %#x of type %d", s, w, d.prim)
			}
		}
	}
}

// chanceNumber is a text of a float's third form.
func chanceNumber(r *rand.Rand) string {
	digits := make([]byte, 1+r.Intn(25))
	for i := range digits {
		digits[i] = '0' + byte(r.Intn(10))
	}
	point := r.Intn(len(digits) + 1)
	s := []string{"", "-", "+"}[r.Intn(3)] + string(digits[:point]) + "." + string(digits[point:])
	if r.Intn(3) == 0 {
		s = strings.Replace(s, ".", "", 1)
	}
	switch r.Intn(4) {
	case 0:
		return s
	case 1:
		return s + "e" + strconv.Itoa(r.Intn(100)-60)
	case 2:
		return s + "E+" + strconv.Itoa(r.Intn(40))
	}
	return s + "e-0" + strconv.Itoa(r.Intn(350))
}

// P3.1: zeros keep their sign, whatever the exponent, and so does what is rounded to zero.
func TestParseZeros(t *testing.T) {
	nines := strings.Repeat("9", 60)
	for _, d := range widths {
		for _, s := range []string{"0", "0.0", ".0", "0.", "00000", "0e0", "0E+5", "0e-5", "0e400", "0e401", "0e" + nines, "0e-" + nines, "0.000e999999999999",
			"1e-400", "1e-401", "1e-500", "9e-500", "1e-" + nines, "123456e-" + nines, "0." + strings.Repeat("0", 500) + "9"} {
			holdRounded(t, d, s, 0)
		}
	}
}

// P3.1: exponents of many digits, and digits that make a great exponent good.
func TestParseExponents(t *testing.T) {
	nines, zeros := strings.Repeat("9", 60), strings.Repeat("0", 5000)
	for _, d := range widths {
		one := uint64(d.bias) << d.fraction
		holdRounded(t, d, "1e"+zeros, one)
		holdRounded(t, d, "1e-"+zeros, one)
		holdRounded(t, d, "1e+"+zeros+"0", one)
		holdRounded(t, d, "10e-"+zeros+"1", one)
		holdRounded(t, d, "1"+zeros+"e-5000", one)
		holdRounded(t, d, "0."+zeros+"1e5001", one)
		holdRounded(t, d, "."+zeros+"1e05001", one)
		holdRounded(t, d, zeros+"1", one)
		holdRounded(t, d, "1."+zeros, one)
		holdRounded(t, d, zeros+"1."+zeros+"e0", one)
		for _, s := range []string{"1e400", "1e401", "1e1000", "1e" + nines, ".0001e" + nines, "1e9223372036854775807", "1e9223372036854775808", "1e4611686018427387904", "1" + zeros} {
			holdRounded(t, d, s, d.infinity)
		}
		for _, s := range []string{"1e-9223372036854775807", "1e-9223372036854775808", "1e-9223372036854775809", "1e-18446744073709551616", "1e-4611686018427387904"} {
			holdRounded(t, d, s, 0)
		}
	}
	holdParse(t, api.Double, "1e308", math.Float64bits(1e308), api.OK, 0)
	holdParse(t, api.Double, "1e309", 0, api.ErrTooBig, 0)
	holdParse(t, api.Float, "1e38", uint64(math.Float32bits(1e38)), api.OK, 0)
}

// P3.2: what is no type, and words that aren't the type's.
func TestPrintRefuses(t *testing.T) {
	for _, p := range []api.Prim{-1, 11, 12, math.MinInt, math.MaxInt} {
		holdPrint(t, p, 0, "", api.ErrPrim)
		holdPrint(t, p, math.MaxUint64, "", api.ErrPrim)
	}
	for p := api.Char; p <= api.Double; p++ {
		for shift := range 64 {
			for _, w := range []uint64{1 << shift, 1<<shift - 1, neg(1 << shift), neg(1<<shift) - 1, 1<<shift + 1} {
				_, err := number.Print(p, w)
				if (err == api.OK) != prim.Fits(p, w) || err != api.OK && err != api.ErrRange {
					t.Errorf("Print(%d, %#x) answers %d", p, w, err)
				}
			}
		}
	}
	holdPrint(t, api.Uint8, 256, "", api.ErrRange)
	holdPrint(t, api.Int8, 128, "", api.ErrRange)
	holdPrint(t, api.Int8, neg(129), "", api.ErrRange)
	holdPrint(t, api.Float, 1<<32, "", api.ErrRange)
	holdPrint(t, api.Char, 256, "", api.ErrRange)
}

// P3.2: characters are told as they are, but for the comma, the # and what isn't seen.
func TestPrintChar(t *testing.T) {
	for c := range uint64(256) {
		want := "#" + strconv.Itoa(int(c))
		if c >= 33 && c <= 126 && c != '#' && c != ',' {
			want = string([]byte{byte(c)})
		}
		holdPrint(t, api.Char, c, want, api.OK)
	}
}

// P3.2: whole numbers in decimal, at the ends of every type and by chance.
func TestPrintWhole(t *testing.T) {
	r := rand.New(rand.NewSource(5))
	for _, p := range wholes {
		least, greatest := ends(p)
		for d := range int64(12) {
			for _, n := range []*big.Int{new(big.Int).Add(least, big.NewInt(d)), new(big.Int).Sub(greatest, big.NewInt(d)), big.NewInt(d)} {
				holdPrint(t, p, wordOf(n), n.String(), api.OK)
			}
		}
		for range 300 {
			n := new(big.Int).Rand(r, new(big.Int).Sub(greatest, least))
			n.Add(n, least)
			holdPrint(t, p, wordOf(n), n.String(), api.OK)
		}
	}
}

// P3.2: floats that are no finite number, and zeros.
func TestPrintFloatNames(t *testing.T) {
	for w, s := range map[uint64]string{0: "0", 0x80000000: "-0", 0x7F800000: "INF", 0xFF800000: "-INF", 0x7FC00000: "NaN",
		0xFFC00000: "0xFFC00000", 0x7FC00001: "0x7FC00001", 0x7F800001: "0x7F800001", 0xFF800001: "0xFF800001", 0x7FFFFFFF: "0x7FFFFFFF", 0xFFFFFFFF: "0xFFFFFFFF", 0x7FABCDEF: "0x7FABCDEF"} {
		holdPrint(t, api.Float, w, s, api.OK)
	}
	for w, s := range map[uint64]string{0: "0", 1 << 63: "-0", 0x7FF0000000000000: "INF", 0xFFF0000000000000: "-INF", 0x7FF8000000000000: "NaN",
		0xFFF8000000000000: "0xFFF8000000000000", 0x7FF8000000000001: "0x7FF8000000000001", 0x7FF0000000000001: "0x7FF0000000000001", 0xFFF0000000000001: "0xFFF0000000000001", math.MaxUint64: "0xFFFFFFFFFFFFFFFF", 0x7FFABCDEF0123456: "0x7FFABCDEF0123456"} {
		holdPrint(t, api.Double, w, s, api.OK)
	}
}

// laid writes digits as the chapter says for the exponent.
func laid(digits string, e int) string {
	n := len(digits)
	if n <= e && e <= 21 {
		return digits + strings.Repeat("0", e-n)
	}
	if 0 < e && e < n {
		return digits[:e] + "." + digits[e:]
	}
	if -6 < e && e <= 0 {
		return "0." + strings.Repeat("0", -e) + digits
	}
	if n == 1 {
		return digits + "e" + strconv.Itoa(e-1)
	}
	return digits[:1] + "." + digits[1:] + "e" + strconv.Itoa(e-1)
}

// tens is a power of ten as a ratio.
func tens(n int) *big.Rat {
	p := new(big.Rat).SetInt(new(big.Int).Exp(big.NewInt(10), big.NewInt(int64(max(n, -n))), nil))
	if n < 0 {
		return p.Inv(p)
	}
	return p
}

// fewest finds the digits by the chapter's words: for each count of digits it tries all that lie next to the value, and takes the nearest that is read as the word.
func (d width) fewest(w uint64) (string, int) {
	v := d.exact(w)
	guess := int(0.30103 * float64(v.Num().BitLen()-v.Denom().BitLen()))
	for n := 1; ; n++ {
		best, bestE := (*big.Int)(nil), 0
		var bestFar *big.Rat
		for e := guess - 2; e <= guess+2; e++ {
			scale := tens(e - n)
			times := new(big.Rat).Quo(v, scale)
			down := new(big.Int).Quo(times.Num(), times.Denom())
			for i := int64(-1); i <= 2; i++ {
				c := new(big.Int).Add(down, big.NewInt(i))
				if c.Sign() <= 0 || len(c.String()) != n {
					continue
				}
				x := new(big.Rat).Mul(new(big.Rat).SetInt(c), scale)
				if !d.isRead(x, w) {
					continue
				}
				far := new(big.Rat).Abs(new(big.Rat).Sub(x, v))
				if best == nil || far.Cmp(bestFar) < 0 || far.Cmp(bestFar) == 0 && c.Bit(0) == 0 {
					best, bestE, bestFar = c, e, far
				}
			}
		}
		if best != nil {
			return best.String(), bestE
		}
	}
}

// P3.2: the shortest text, found by the chapter's words.
func TestPrintShortest(t *testing.T) {
	r := rand.New(rand.NewSource(6))
	for _, d := range widths {
		words := d.sample(r, 100)
		for w := range uint64(100) {
			words = append(words, w+1)
		}
		for _, w := range words {
			digits, e := d.fewest(w)
			holdPrint(t, d.prim, w, laid(digits, e), api.OK)
			holdPrint(t, d.prim, w|d.sign(), "-"+laid(digits, e), api.OK)
		}
	}
}

// library is the shortest text by the library's digits.
func library(d width, w uint64) string {
	v := math.Float64frombits(w)
	if d.bits == 32 {
		v = float64(math.Float32frombits(uint32(w)))
	}
	mantissa, exponent, _ := strings.Cut(strconv.FormatFloat(v, 'e', -1, d.bits), "e")
	minus := ""
	if rest, ok := strings.CutPrefix(mantissa, "-"); ok {
		minus, mantissa = "-", rest
	}
	e, _ := strconv.Atoi(exponent)
	return minus + laid(strings.Replace(mantissa, ".", "", 1), e+1)
}

// P3.2, P3.3: the shortest text against a writer of another make, there and back, for many words.
func TestPrintFloatByChance(t *testing.T) {
	r := rand.New(rand.NewSource(7))
	for _, d := range widths {
		for range 60000 {
			w := r.Uint64() % d.infinity
			if r.Intn(2) == 0 {
				w |= d.sign()
			}
			if w&^d.sign() == 0 {
				continue
			}
			holdPrint(t, d.prim, w, library(d, w), api.OK)
			holdParse(t, d.prim, printed(d.prim, w), w, api.OK, 0)
		}
	}
}

// P3.2: the four ways in which digits are written, with the exponent at each end; of two texts as near the one whose last digit is even.
func TestPrintLayout(t *testing.T) {
	for _, digits := range []string{"1", "12", "123456", "1234567", "123456789012345", "12345678901234567"} {
		for e := -330; e <= 309; e++ {
			s := "0." + digits + "e" + strconv.Itoa(e)
			w, err, _ := number.Parse(api.Double, s)
			if err != api.OK || w == 0 || w>>52 == 0 || len(digits) == 17 && library(widths[1], w) != laid(digits, e) {
				continue
			}
			holdPrint(t, api.Double, w, laid(digits, e), api.OK)
			holdPrint(t, api.Double, w|1<<63, "-"+laid(digits, e), api.OK)
		}
	}
	for s, v := range map[string]float64{"1": 1, "10": 10, "12": 12, "1.2": 1.2, "0.12": 0.12, "0.000001": 0.000001, "0.0000012": 0.0000012, "1e-7": 0.0000001, "1.2e-7": 0.00000012,
		"100000000000000000000": 1e20, "120000000000000000000": 1.2e20, "1e21": 1e21, "1.2e21": 1.2e21, "123.456": 123.456, "1234567.5": 1234567.5, "9007199254740993000": 9007199254740993000,
		"999999999999999900000": 999999999999999900000, "1e100": 1e100, "1.5e-300": 1.5e-300,
		"1125899906842624.2": 1125899906842624.25, "1125899906842624.8": 1125899906842624.75} {
		holdPrint(t, api.Double, math.Float64bits(v), s, api.OK)
	}
	for s, v := range map[string]float32{"16777218": 16777218, "3.4028235e38": math.MaxFloat32, "1e-45": math.SmallestNonzeroFloat32, "0.1": 0.1, "1e21": 1e21, "100000000000000000000": 1e20, "0.000001": 0.000001, "1e-7": 0.0000001, "2097152.2": 2097152.25, "2097152.8": 2097152.75} {
		holdPrint(t, api.Float, uint64(math.Float32bits(v)), s, api.OK)
	}
}

// P3.3: all words of the small types, and many of the others, there and back.
func TestThereAndBack(t *testing.T) {
	r := rand.New(rand.NewSource(8))
	for p := api.Char; p <= api.Double; p++ {
		shift := 64 - 8*prim.Size(p)
		word := func(bits uint64) uint64 {
			if prim.Signed(p) {
				return uint64(int64(bits<<shift) >> shift)
			}
			return bits << shift >> shift
		}
		words := []uint64{prim.Null(p), prim.Min(p), prim.Max(p)}
		for i := range uint64(1 << 16) {
			if prim.Size(p) <= 2 {
				words = append(words, word(i))
			}
		}
		for range 5000 {
			words = append(words, word(r.Uint64()), word(r.Uint64()>>r.Intn(64)))
		}
		for _, w := range words {
			holdParse(t, p, printed(p, w), w, api.OK, 0)
		}
	}
}

// P3.3: texts that say one value are printed as one text.
func TestOneText(t *testing.T) {
	for _, c := range []struct {
		p     api.Prim
		want  string
		texts []string
	}{
		{api.Char, "A", []string{"A", "#65", "#065"}},
		{api.Char, "#35", []string{"#", "#35"}},
		{api.Char, "#32", []string{" ", "#32", "#0032"}},
		{api.Uint8, "255", []string{"255", "+255", "0xff", "0XFF", "00255"}},
		{api.Int16, "0", []string{"0", "-0", "+0", "0x0", "-000"}},
		{api.Int64, "-1", []string{"-1", "-01"}},
		{api.Float, "0.1", []string{".1", "0.1", "+1e-1", "10E-2", "0x3dcccccd", "0.10000000149011612"}},
		{api.Double, "1500", []string{"1.5e3", "1500", "15.e2", "0x4097700000000000"}},
		{api.Double, "-0", []string{"-0", "-0.0e5", "-1e-999", "0x8000000000000000"}},
		{api.Float, "NaN", []string{"NaN", "0x7fc00000"}},
		{api.Float, "INF", []string{"INF", "+INF", "0x7f800000"}},
		{api.Double, "-INF", []string{"-INF", "0xfff0000000000000"}},
	} {
		for _, s := range c.texts {
			w, err, _ := number.Parse(c.p, s)
			if got := printed(c.p, w); err != api.OK || got != c.want {
				t.Errorf("type %d: %q is printed as %q, %d; want %q", c.p, s, got, err, c.want)
			}
		}
	}
}

// P3.4: digits alone, and a number that is at most most.
func TestInt(t *testing.T) {
	for _, c := range []struct {
		s    string
		most int
		n    int
		err  api.Errno
		at   int
	}{
		{"0", 0, 0, api.OK, 0}, {"007", 7, 7, api.OK, 0}, {"8", 7, 0, api.ErrTooBig, 0}, {"7", 7, 7, api.OK, 0}, {"6", 7, 6, api.OK, 0},
		{"", 7, 0, api.ErrNumber, 0}, {"", -1, 0, api.ErrNumber, 0}, {"1x", 7, 0, api.ErrNumber, 1}, {"99999999999999999999x", 7, 0, api.ErrNumber, 20},
		{"+1", 7, 0, api.ErrNumber, 0}, {"-1", 7, 0, api.ErrNumber, 0}, {"0x1", 7, 0, api.ErrNumber, 1}, {"1_0", 70, 0, api.ErrNumber, 1}, {" 1", 7, 0, api.ErrNumber, 0}, {"1 ", 7, 0, api.ErrNumber, 1}, {"a", 70, 0, api.ErrNumber, 0}, {"1\x00", 7, 0, api.ErrNumber, 1}, {"٣", 7, 0, api.ErrNumber, 0},
		{"0", -1, 0, api.ErrTooBig, 0}, {"000", math.MinInt, 0, api.ErrTooBig, 0}, {"5", -5, 0, api.ErrTooBig, 0}, {"x", -1, 0, api.ErrNumber, 0},
		{"9223372036854775807", math.MaxInt, math.MaxInt, api.OK, 0}, {"9223372036854775806", math.MaxInt, math.MaxInt - 1, api.OK, 0}, {"9223372036854775808", math.MaxInt, 0, api.ErrTooBig, 0}, {"18446744073709551615", math.MaxInt, 0, api.ErrTooBig, 0}, {"18446744073709551616", math.MaxInt, 0, api.ErrTooBig, 0}, {"18446744073709551617", 5, 0, api.ErrTooBig, 0},
		{strings.Repeat("9", 200), math.MaxInt, 0, api.ErrTooBig, 0}, {strings.Repeat("0", 200) + "12", 12, 12, api.OK, 0},
	} {
		n, err, at := number.Int(c.s, c.most)
		if n != c.n || err != c.err || at != c.at {
			t.Errorf("Int(%.40q, %d) = %d, %d, %d; want %d, %d, %d", c.s, c.most, n, err, at, c.n, c.err, c.at)
		}
	}
	for c := range 256 {
		s := "1" + string([]byte{byte(c)})
		n, err, at := number.Int(s, 1000)
		if isDigit := c >= '0' && c <= '9'; isDigit && (n != 10+c-'0' || err != api.OK || at != 0) || !isDigit && (n != 0 || err != api.ErrNumber || at != 1) {
			t.Errorf("Int(%q, 1000) = %d, %d, %d", s, n, err, at)
		}
	}
}

func holdList(t *testing.T, p api.Prim, s string, words []uint64, err api.Errno, at int) {
	t.Helper()
	got, gotErr, gotAt := number.List(p, s)
	if !slices.Equal(got, words) || gotErr != err || gotAt != at {
		t.Errorf("List(%d, %q) = %v, %d, %d; want %v, %d, %d", p, s, got, gotErr, gotAt, words, err, at)
	}
}

// P3.5: words between commas; the place of a refused cut is one in the whole text.
func TestList(t *testing.T) {
	for p := api.Char; p <= api.Double; p++ {
		holdList(t, p, "", nil, api.OK, 0)
	}
	for _, p := range []api.Prim{-1, 11, math.MaxInt} {
		holdList(t, p, "", nil, api.ErrPrim, 0)
		holdList(t, p, "1,x", nil, api.ErrPrim, 0)
		holdList(t, p, ",", nil, api.ErrPrim, 0)
	}
	holdList(t, api.Int8, "1", []uint64{1}, api.OK, 0)
	holdList(t, api.Int8, "1,-2,3", []uint64{1, neg(2), 3}, api.OK, 0)
	holdList(t, api.Uint16, "0x10,+5,065535", []uint64{16, 5, 65535}, api.OK, 0)
	holdList(t, api.Char, "A,#44,#, ,#035", []uint64{65, 44, 35, 32, 35}, api.OK, 0)
	holdList(t, api.Float, "1,NaN,-INF,.5", []uint64{0x3F800000, 0x7FC00000, 0xFF800000, 0x3F000000}, api.OK, 0)
	holdList(t, api.Double, "0x0000000000000001,-0", []uint64{1, 1 << 63}, api.OK, 0)
	for s, at := range map[string]int{",": 0, ",1": 0, "1,": 2, "1,,3": 2, "1,2,": 4, "1,x": 2, "1,2x,y": 3, "12,-": 4, "12,-,": 4, "1, 2": 2, "1 ,2": 1, "10,+0x1,2": 5, "1;2": 1, ",,": 0} {
		holdList(t, api.Int8, s, nil, api.ErrNumber, at)
	}
	for s, at := range map[string]int{"200": 0, "1,200": 2, "-129,1": 0, "1,2,-129,x": 4} {
		holdList(t, api.Int8, s, nil, api.ErrTooBig, at)
	}
	holdList(t, api.Int8, "1,200,x", nil, api.ErrTooBig, 2)
	holdList(t, api.Int8, "1,x,200", nil, api.ErrNumber, 2)
	holdList(t, api.Char, ",", nil, api.ErrOneChar, 0)
	holdList(t, api.Char, "A,,B", nil, api.ErrOneChar, 2)
	holdList(t, api.Char, "A,BC", nil, api.ErrOneChar, 2)
	holdList(t, api.Char, "A,#256", nil, api.ErrTooBig, 2)
	holdList(t, api.Float, "1,1e39", nil, api.ErrTooBig, 2)
	holdList(t, api.Float, "1,2.5.", nil, api.ErrNumber, 5)
}

// P3.6: the texts with commas between them; List of Join is the words.
func TestJoin(t *testing.T) {
	for _, c := range []struct {
		p     api.Prim
		words []uint64
		s     string
		err   api.Errno
	}{
		{api.Int8, []uint64{1, neg(2), 3}, "1,-2,3", api.OK}, {api.Char, []uint64{65, 44, 35, 0, 32}, "A,#44,#35,#0,#32", api.OK}, {api.Uint8, nil, "", api.OK}, {api.Uint8, []uint64{}, "", api.OK}, {api.Uint8, []uint64{7}, "7", api.OK},
		{api.Float, []uint64{0x3F800000, 0x7FC00000, 0x7FC00001}, "1,NaN,0x7FC00001", api.OK},
		{api.Uint8, []uint64{256}, "", api.ErrRange}, {api.Uint8, []uint64{1, 256}, "", api.ErrRange}, {api.Uint8, []uint64{1, 256, 2}, "", api.ErrRange}, {api.Int8, []uint64{128, 1}, "", api.ErrRange},
		{11, nil, "", api.ErrPrim}, {-1, []uint64{1}, "", api.ErrPrim}, {12, []uint64{math.MaxUint64}, "", api.ErrPrim},
	} {
		s, err := number.Join(c.p, c.words)
		if s != c.s || err != c.err {
			t.Errorf("Join(%d, %v) = %q, %d; want %q, %d", c.p, c.words, s, err, c.s, c.err)
		}
	}
	r := rand.New(rand.NewSource(9))
	for p := api.Char; p <= api.Double; p++ {
		for n := range 30 {
			var words []uint64
			for len(words) < n {
				if w := r.Uint64() >> r.Intn(64); prim.Fits(p, w) {
					words = append(words, w)
				}
			}
			s, err := number.Join(p, words)
			if err != api.OK {
				t.Errorf("Join(%d, %v) answers %d", p, words, err)
			}
			holdList(t, p, s, words, api.OK, 0)
		}
	}
}

// P3.7: what is handed in stays as it is, spare room too, and no two answers share memory.
func TestNewMemory(t *testing.T) {
	room := []uint64{1, 2, 3, 4, 5, 6}
	if _, err := number.Join(api.Uint8, room[:3]); err != api.OK || !slices.Equal(room, []uint64{1, 2, 3, 4, 5, 6}) {
		t.Errorf("Join left %v, %d", room, err)
	}
	one, _, _ := number.List(api.Uint8, "1,2,3")
	two, _, _ := number.List(api.Uint8, "1,2,3")
	for i := range one {
		one[i] = 9
	}
	_ = append(one, 9, 9)
	if !slices.Equal(two, []uint64{1, 2, 3}) || !slices.Equal(two[:cap(two)][3:], make([]uint64, cap(two)-3)) {
		t.Errorf("two answers of List share memory: %v", two[:cap(two)])
	}
	three, _, _ := number.List(api.Uint8, "1,2,3")
	if !slices.Equal(three, []uint64{1, 2, 3}) {
		t.Errorf("List answers %v behind a change of an earlier answer", three)
	}
}

// P3.7: texts of a million bytes, and exponents that are beyond all, are read in a moment.
func TestLongTexts(t *testing.T) {
	const n = 1 << 20
	ones, zeros := strings.Repeat("1", n), strings.Repeat("0", n)
	for p := api.Int8; p <= api.Double; p++ {
		holdParse(t, p, zeros+"7x", 0, api.ErrNumber, n+1)
		if p < api.Float {
			holdParse(t, p, ones, 0, api.ErrTooBig, 0)
			holdParse(t, p, "0x"+ones, 0, api.ErrTooBig, 0)
			holdParse(t, p, "-"+ones, 0, api.ErrTooBig, 0)
			holdParse(t, p, "+"+zeros+"7", 7, api.OK, 0)
			holdParse(t, p, "0x"+zeros+"7", 7, api.OK, 0)
		}
	}
	for _, d := range widths {
		holdRounded(t, d, ones, d.infinity)
		holdRounded(t, d, "1e"+ones, d.infinity)
		holdRounded(t, d, "1e-"+ones, 0)
		holdRounded(t, d, "0."+zeros+"1e1048577", uint64(d.bias)<<d.fraction)
		holdRounded(t, d, "1"+zeros+"e-1048576", uint64(d.bias)<<d.fraction)
		holdRounded(t, d, "1."+zeros+"1", uint64(d.bias)<<d.fraction)
		holdRounded(t, d, pointed(d.middle(1))+zeros+"1", 2)
		holdRounded(t, d, pointed(d.middle(2))+zeros, 2)
		holdParse(t, d.prim, "0x"+ones, 0, api.ErrNumber, 2+d.bits/4)
	}
	if _, err, at := number.List(api.Uint8, strings.Repeat("1,", n)); err != api.ErrNumber || at != 2*n {
		t.Errorf("a long list: %d, %d", err, at)
	}
}
