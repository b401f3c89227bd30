package prim_test

import (
	"bytes"
	"encoding/binary"
	"math"
	"math/big"
	"strings"
	"testing"

	"stencil/api"
	"stencil/prim"
)

var (
	allTypes = []api.Prim{api.Char, api.Int8, api.Int16, api.Int32, api.Int64, api.Uint8, api.Uint16, api.Uint32, api.Uint64, api.Float, api.Double}
	noTypes  = []api.Prim{-1, 11, 12, -11, 256, math.MaxInt32, math.MinInt32, math.MaxInt, math.MinInt}
	noOrders = []api.Endian{-1, 2, 3, 256, math.MaxInt32, math.MaxInt, math.MinInt}
	orders   = []api.Endian{api.Little, api.Big}
)

// neg is the word of a number below 0.
func neg(n uint64) uint64 { return -n }

// number is what a word of a type that is no float stands for, reckoned without the package.
func number(p api.Prim, w uint64) *big.Int {
	if p >= api.Int8 && p <= api.Int64 {
		return big.NewInt(int64(w))
	}
	return new(big.Int).SetUint64(w)
}

// isWord says by whole numbers what P1.3 says.
func isWord(p api.Prim, w uint64) bool {
	width := uint(8 * []int{1, 1, 2, 4, 8, 1, 2, 4, 8, 4, 8}[p])
	low, high := new(big.Int), new(big.Int).Lsh(big.NewInt(1), width)
	if p >= api.Int8 && p <= api.Int64 {
		high.Rsh(high, 1)
		low.Neg(high)
	}
	n := number(p, w)
	return n.Cmp(low) >= 0 && n.Cmp(high) < 0
}

// edgeWords are the words at both ends of all widths, signed and unsigned, and some in between.
func edgeWords() []uint64 {
	ws := []uint64{0, 1, 2, 31, 32, 33, 125, 126, 65, 0x0102030405060708, 0x8182838485868788, 0x01020304, 0x81828384, 0x0102, 0x8182,
		0x7F800000, 0x7FC00000, 0xFF800000, 0x7FF0000000000000, 0x7FF8000000000000, 0xFFF0000000000000}
	for _, bits := range []uint{7, 8, 15, 16, 31, 32, 63} {
		for _, w := range []uint64{1 << bits, neg(1 << bits)} {
			ws = append(ws, w-2, w-1, w, w+1, w+2)
		}
	}
	return append(ws, neg(1), neg(2))
}

func wordsOf(p api.Prim) []uint64 {
	var ws []uint64
	for _, w := range edgeWords() {
		if isWord(p, w) {
			ws = append(ws, w)
		}
	}
	return ws
}

// bytesOf is how a word lies in bytes, by the library's own orders.
func bytesOf(size int, o api.Endian, w uint64) []byte {
	if o == api.Big {
		return binary.BigEndian.AppendUint64(nil, w)[8-size:]
	}
	return binary.LittleEndian.AppendUint64(nil, w)[:size]
}

// sea is a buffer that lies inside greater memory, with room behind it: a byte that is changed outside shows.
type sea struct {
	whole  []byte
	buffer []byte
	before []byte
}

func newSea(length int) *sea {
	s := &sea{whole: make([]byte, length+48)}
	for i := range s.whole {
		s.whole[i] = byte(0xA1 + 7*i)
	}
	s.buffer = s.whole[16 : 16+length]
	s.before = bytes.Clone(s.whole)
	return s
}

// expect asks that the memory is as it was but for these bytes at a place of the buffer.
func (s *sea) expect(t *testing.T, what string, at int, written []byte) {
	t.Helper()
	want := bytes.Clone(s.before)
	if len(written) > 0 {
		copy(want[16+at:], written)
	}
	if !bytes.Equal(s.whole, want) {
		t.Errorf("%s: memory\n% X, not\n% X", what, s.whole, want)
	}
}

// P1.1
func TestSize(t *testing.T) {
	for p, size := range []int{1, 1, 2, 4, 8, 1, 2, 4, 8, 4, 8} {
		if got := prim.Size(api.Prim(p)); got != size {
			t.Errorf("Size(%d) = %d, not %d", p, got, size)
		}
	}
	for _, p := range noTypes {
		if got := prim.Size(p); got != 0 {
			t.Errorf("Size(%d) = %d, not 0", p, got)
		}
	}
}

// P1.1
func TestSigned(t *testing.T) {
	for _, p := range allTypes {
		need := p == api.Int8 || p == api.Int16 || p == api.Int32 || p == api.Int64
		if got := prim.Signed(p); got != need {
			t.Errorf("Signed(%d) = %v", p, got)
		}
	}
	for _, p := range noTypes {
		if prim.Signed(p) {
			t.Errorf("Signed(%d) = true", p)
		}
	}
}

// P1.2
func TestNullMinMax(t *testing.T) {
	for _, r := range []struct {
		p              api.Prim
		null, min, max uint64
	}{
		{api.Char, 0, 32, 126},
		{api.Int8, neg(128), neg(127), 127},
		{api.Int16, neg(32768), neg(32767), 32767},
		{api.Int32, neg(2147483648), neg(2147483647), 2147483647},
		{api.Int64, neg(9223372036854775808), neg(9223372036854775807), 9223372036854775807},
		{api.Uint8, 255, 0, 254},
		{api.Uint16, 65535, 0, 65534},
		{api.Uint32, 4294967295, 0, 4294967294},
		{api.Uint64, 18446744073709551615, 0, 18446744073709551614},
		{api.Float, 0x7FC00000, 0, 0xFFFFFFFF},
		{api.Double, 0x7FF8000000000000, 0, 0xFFFFFFFFFFFFFFFF},
	} {
		if null, min, max := prim.Null(r.p), prim.Min(r.p), prim.Max(r.p); null != r.null || min != r.min || max != r.max {
			t.Errorf("%d: null %X, min %X, max %X, not %X, %X, %X", r.p, null, min, max, r.null, r.min, r.max)
		}
	}
	for _, p := range noTypes {
		if null, min, max := prim.Null(p), prim.Min(p), prim.Max(p); null != 0 || min != 0 || max != 0 {
			t.Errorf("%d: null %X, min %X, max %X, not 0", p, null, min, max)
		}
	}
}

// P1.3
func TestFits(t *testing.T) {
	for _, p := range allTypes {
		for _, w := range edgeWords() {
			if got, need := prim.Fits(p, w), isWord(p, w); got != need {
				t.Errorf("Fits(%d, %X) = %v", p, w, got)
			}
		}
		if !prim.Fits(p, prim.Null(p)) || !prim.Fits(p, prim.Min(p)) || !prim.Fits(p, prim.Max(p)) {
			t.Errorf("%d: its null, min or max isn't one of its words", p)
		}
	}
	for _, p := range noTypes {
		for _, w := range edgeWords() {
			if prim.Fits(p, w) {
				t.Errorf("Fits(%d, %X) = true", p, w)
			}
		}
	}
}

// P1.3
func TestFitsExamples(t *testing.T) {
	for _, r := range []struct {
		p    api.Prim
		w    uint64
		need bool
	}{
		{api.Int8, 127, true}, {api.Int8, 128, false}, {api.Int8, neg(128), true}, {api.Int8, neg(129), false}, {api.Int8, 0xFF, false},
		{api.Int32, 0xFFFFFFFF, false}, {api.Int32, 0xFFFFFFFF00000000, false}, {api.Int64, 1 << 63, true},
		{api.Uint8, 255, true}, {api.Uint8, 256, false}, {api.Uint8, neg(1), false}, {api.Uint64, neg(1), true},
		{api.Char, 0, true}, {api.Char, 255, true}, {api.Char, 256, false}, {api.Char, neg(1), false},
		{api.Float, 0xFFFFFFFF, true}, {api.Float, 1 << 32, false}, {api.Float, neg(1), false},
		{api.Double, 0, true}, {api.Double, neg(1), true}, {11, 0, false}, {-1, 0, false},
	} {
		if got := prim.Fits(r.p, r.w); got != r.need {
			t.Errorf("Fits(%d, %X) = %v", r.p, r.w, got)
		}
	}
}

// P1.4
func TestCompareNumbers(t *testing.T) {
	for _, p := range allTypes[:api.Float] {
		for _, a := range edgeWords() {
			for _, b := range edgeWords() {
				need := 0
				if isWord(p, a) && isWord(p, b) {
					need = number(p, a).Cmp(number(p, b))
				}
				if got := prim.Compare(p, a, b); got != need {
					t.Errorf("Compare(%d, %X, %X) = %d, not %d", p, a, b, got, need)
				}
			}
		}
	}
}

// P1.4: the patterns stand in the value's order, so the places of two tell how they compare.
func TestCompareFloats(t *testing.T) {
	for _, r := range []struct {
		p  api.Prim
		ws []uint64
	}{
		{api.Float, []uint64{0xFFFFFFFF, 0xFFC00000, 0xFF800001, 0xFF800000, 0xFF7FFFFF, 0xC0000000, 0xBF800000, 0x80000001, 0x80000000,
			0, 1, 0x3F800000, 0x40000000, 0x7F7FFFFF, 0x7F800000, 0x7F800001, 0x7FC00000, 0x7FFFFFFF}},
		{api.Double, []uint64{neg(1), 0xFFF8000000000000, 0xFFF0000000000001, 0xFFF0000000000000, 0xFFEFFFFFFFFFFFFF, 0xC000000000000000, 0xBFF0000000000000, 1<<63 + 1, 1 << 63,
			0, 1, 0x80000000, 0xFFFFFFFF, 0x3FF0000000000000, 0x4000000000000000, 0x7FEFFFFFFFFFFFFF, 0x7FF0000000000000, 0x7FF0000000000001, 0x7FF8000000000000, 1<<63 - 1}},
	} {
		for i, a := range r.ws {
			for j, b := range r.ws {
				need := min(1, max(-1, i-j))
				if got := prim.Compare(r.p, a, b); got != need {
					t.Errorf("Compare(%d, %X, %X) = %d, not %d", r.p, a, b, got, need)
				}
			}
		}
	}
}

// P1.4
func TestCompareWrongInputs(t *testing.T) {
	for _, p := range noTypes {
		if got := prim.Compare(p, 1, 2); got != 0 {
			t.Errorf("Compare(%d, 1, 2) = %d", p, got)
		}
	}
	for _, r := range []struct {
		p    api.Prim
		a, b uint64
	}{
		{api.Uint8, 256, 1}, {api.Uint8, 1, 256}, {api.Int8, 128, 1}, {api.Int8, 1, 128}, {api.Int8, neg(129), 1}, {api.Int16, 1, 0xFFFF},
		{api.Char, neg(1), 1}, {api.Float, 1 << 32, 0}, {api.Float, 0, 1 << 32}, {api.Float, neg(1), 0}, {api.Uint32, 1 << 32, 1 << 33},
	} {
		if got := prim.Compare(r.p, r.a, r.b); got != 0 {
			t.Errorf("Compare(%d, %X, %X) = %d, not 0", r.p, r.a, r.b, got)
		}
	}
}

// P1.5
func TestGetExamples(t *testing.T) {
	b := []byte{1, 2, 3, 4, 0xFF, 0xFE, 0x80, 0}
	for _, r := range []struct {
		at int
		p  api.Prim
		o  api.Endian
		w  uint64
	}{
		{0, api.Uint16, api.Little, 0x0201}, {0, api.Uint16, api.Big, 0x0102},
		{4, api.Int8, api.Big, neg(1)}, {4, api.Int8, api.Little, neg(1)}, {0, api.Int8, api.Little, 1}, {4, api.Uint8, api.Little, 255},
		{4, api.Int16, api.Little, neg(257)}, {4, api.Int16, api.Big, neg(2)}, {4, api.Uint16, api.Little, 0xFEFF},
		{4, api.Int32, api.Big, 0xFFFFFFFFFFFE8000}, {4, api.Int32, api.Little, 0x0080FEFF}, {3, api.Int32, api.Little, 0xFFFFFFFF80FEFF04},
		{4, api.Uint32, api.Big, 0xFFFE8000}, {4, api.Float, api.Big, 0xFFFE8000}, {4, api.Float, api.Little, 0x0080FEFF},
		{0, api.Int64, api.Big, 0x01020304FFFE8000}, {0, api.Uint64, api.Little, 0x0080FEFF04030201}, {0, api.Double, api.Big, 0x01020304FFFE8000},
		{6, api.Char, api.Little, 128}, {7, api.Char, api.Big, 0},
	} {
		if w, err := prim.Get(b, r.at, r.p, r.o); w != r.w || err != api.OK {
			t.Errorf("Get(b, %d, %d, %d) = %X, %v, not %X", r.at, r.p, r.o, w, err, r.w)
		}
	}
}

// P1.5: every word of a type lies in the bytes that the library's own orders make, at every place, up to both ends.
func TestGetEveryPlace(t *testing.T) {
	for _, p := range allTypes {
		size := prim.Size(p)
		for _, o := range orders {
			for _, w := range wordsOf(p) {
				for at := 0; at+size <= 11; at++ {
					s := newSea(11)
					copy(s.buffer[at:], bytesOf(size, o, w))
					if got, err := prim.Get(s.buffer, at, p, o); got != w || err != api.OK {
						t.Errorf("Get(b, %d, %d, %d) = %X, %v, not %X", at, p, o, got, err, w)
					}
				}
			}
		}
	}
}

// P1.5: whatever the bytes are, it is one of the type's words.
func TestGetIsAWordOfItsType(t *testing.T) {
	for _, fill := range []byte{0, 1, 0x7F, 0x80, 0xFE, 0xFF} {
		b := bytes.Repeat([]byte{fill}, 8)
		for _, p := range allTypes {
			for _, o := range orders {
				if w, err := prim.Get(b, 0, p, o); err != api.OK || !isWord(p, w) {
					t.Errorf("Get of bytes %X, type %d = %X, %v", fill, p, w, err)
				}
			}
		}
	}
}

// outside are places at which no value of that size lies in a buffer of that length.
func outside(length, size int) []int {
	return []int{-1, -2, -size, -size - 1, math.MinInt, math.MinInt + 1, length - size + 1, length, length + 1, math.MaxInt, math.MaxInt - 1, math.MaxInt - size, math.MaxInt - size + 1}
}

// P1.5
func TestGetShort(t *testing.T) {
	for _, p := range allTypes {
		size := prim.Size(p)
		for _, length := range []int{0, size - 1, size, 8, 11} {
			s := newSea(length)
			for _, at := range outside(length, size) {
				if length < size && at == length-size+1 {
					at = 0
				}
				for _, o := range orders {
					if w, err := prim.Get(s.buffer, at, p, o); w != 0 || err != api.ErrShort {
						t.Errorf("Get(%d bytes, %d, %d, %d) = %X, %v, not ErrShort", length, at, p, o, w, err)
					}
				}
			}
		}
		if w, err := prim.Get(nil, 0, p, api.Big); w != 0 || err != api.ErrShort {
			t.Errorf("Get(nil, 0, %d, Big) = %X, %v", p, w, err)
		}
	}
}

// P1.5: what is no type, or no order, is told ahead of a place that is none.
func TestGetNoTypeNoOrder(t *testing.T) {
	b := []byte{1, 2, 3, 4, 5, 6, 7, 8}
	for _, at := range []int{0, 7, 8, 9, -1, math.MaxInt} {
		for _, p := range noTypes {
			for _, o := range append(noOrders, orders...) {
				if w, err := prim.Get(b, at, p, o); w != 0 || err != api.ErrPrim {
					t.Errorf("Get(b, %d, %d, %d) = %X, %v, not ErrPrim", at, p, o, w, err)
				}
			}
		}
		for _, p := range allTypes {
			for _, o := range noOrders {
				if w, err := prim.Get(b, at, p, o); w != 0 || err != api.ErrPrim {
					t.Errorf("Get(b, %d, %d, %d) = %X, %v, not ErrPrim", at, p, o, w, err)
				}
			}
		}
	}
	if w, err := prim.Get(nil, 0, 11, api.Little); w != 0 || err != api.ErrPrim {
		t.Errorf("Get(nil, 0, 11, Little) = %X, %v", w, err)
	}
}

// P1.6, P1.9
func TestPutEveryPlace(t *testing.T) {
	for _, p := range allTypes {
		size := prim.Size(p)
		for _, o := range orders {
			for _, w := range wordsOf(p) {
				for at := 0; at+size <= 11; at++ {
					s := newSea(11)
					if err := prim.Put(s.buffer, at, p, o, w); err != api.OK {
						t.Errorf("Put(b, %d, %d, %d, %X) = %v", at, p, o, w, err)
					}
					s.expect(t, "Put", at, bytesOf(size, o, w))
					if got, err := prim.Get(s.buffer, at, p, o); got != w || err != api.OK {
						t.Errorf("Get behind Put(b, %d, %d, %d, %X) = %X, %v", at, p, o, w, got, err)
					}
				}
			}
		}
	}
}

// P1.6, P1.9
func TestPutRange(t *testing.T) {
	for _, p := range allTypes {
		for _, w := range edgeWords() {
			if isWord(p, w) {
				continue
			}
			for _, o := range orders {
				for _, at := range []int{0, 3, 11, 12, -1, math.MaxInt, math.MinInt} {
					s := newSea(11)
					if err := prim.Put(s.buffer, at, p, o, w); err != api.ErrRange {
						t.Errorf("Put(b, %d, %d, %d, %X) = %v, not ErrRange", at, p, o, w, err)
					}
					s.expect(t, "Put beside ErrRange", 0, nil)
				}
			}
		}
	}
}

// P1.6, P1.9
func TestPutShort(t *testing.T) {
	for _, p := range allTypes {
		size := prim.Size(p)
		for _, length := range []int{size, 8, 11} {
			for _, at := range outside(length, size) {
				for _, o := range orders {
					s := newSea(length)
					if err := prim.Put(s.buffer, at, p, o, prim.Max(p)); err != api.ErrShort {
						t.Errorf("Put(%d bytes, %d, %d, %d) = %v, not ErrShort", length, at, p, o, err)
					}
					s.expect(t, "Put beside ErrShort", 0, nil)
				}
			}
		}
		s := newSea(size - 1)
		if err := prim.Put(s.buffer, 0, p, api.Little, 0); err != api.ErrShort {
			t.Errorf("Put(%d bytes, 0, %d) = %v, not ErrShort", size-1, p, err)
		}
		s.expect(t, "Put beside ErrShort", 0, nil)
		if err := prim.Put(nil, 0, p, api.Big, 0); err != api.ErrShort {
			t.Errorf("Put(nil, 0, %d) = %v, not ErrShort", p, err)
		}
	}
}

// P1.6, P1.9: what is no type, or no order, is told ahead of a word and a place that are none.
func TestPutNoTypeNoOrder(t *testing.T) {
	s := newSea(11)
	for _, at := range []int{0, 12, -1, math.MaxInt} {
		for _, w := range []uint64{0, 5, 256, neg(1)} {
			for _, o := range append(noOrders, orders...) {
				for _, p := range noTypes {
					if err := prim.Put(s.buffer, at, p, o, w); err != api.ErrPrim {
						t.Errorf("Put(b, %d, %d, %d, %X) = %v, not ErrPrim", at, p, o, w, err)
					}
				}
			}
			for _, o := range noOrders {
				for _, p := range allTypes {
					if err := prim.Put(s.buffer, at, p, o, w); err != api.ErrPrim {
						t.Errorf("Put(b, %d, %d, %d, %X) = %v, not ErrPrim", at, p, o, w, err)
					}
				}
			}
		}
	}
	s.expect(t, "Put beside ErrPrim", 0, nil)
}

// P1.6
func TestPutExamples(t *testing.T) {
	b := []byte{1, 2, 3, 4, 0xFF, 0xFE, 0x80, 0}
	for _, r := range []struct {
		at   int
		p    api.Prim
		o    api.Endian
		w    uint64
		need api.Errno
	}{
		{0, api.Int8, api.Little, 128, api.ErrRange}, {9, api.Int8, api.Little, 128, api.ErrRange}, {9, api.Int8, api.Little, 127, api.ErrShort},
		{0, api.Float, api.Little, 1 << 32, api.ErrRange}, {0, api.Int16, api.Big, neg(2), api.OK},
	} {
		if err := prim.Put(b, r.at, r.p, r.o, r.w); err != r.need {
			t.Errorf("Put(b, %d, %d, %d, %X) = %v, not %v", r.at, r.p, r.o, r.w, err, r.need)
		}
	}
	if need := []byte{0xFF, 0xFE, 3, 4, 0xFF, 0xFE, 0x80, 0}; !bytes.Equal(b, need) {
		t.Errorf("b is % X, not % X", b, need)
	}
}

// charPlaces are pairs of a place and a length that don't lie in a buffer of 8 bytes.
var charPlaces = [][2]int{
	{9, 0}, {-1, 0}, {-1, 1}, {0, -1}, {8, -1}, {8, 1}, {7, 2}, {0, 9}, {-1, 9}, {-2, 1}, {5, -2}, {-1, -1},
	{1, math.MaxInt}, {0, math.MaxInt}, {math.MaxInt, 0}, {math.MaxInt, 1}, {math.MaxInt, math.MaxInt}, {math.MinInt, 0}, {0, math.MinInt},
	{math.MinInt, math.MinInt}, {math.MinInt, math.MaxInt}, {math.MaxInt, math.MinInt}, {1, math.MinInt}, {math.MinInt, 1},
}

// P1.7
func TestGetChars(t *testing.T) {
	b := []byte{1, 0, 0xC3, 'a', 0, 0xFF, 0x80, 0}
	for at := 0; at <= 8; at++ {
		for n := 0; at+n <= 8; n++ {
			if s, err := prim.GetChars(b, at, n); s != string(b[at:at+n]) || err != api.OK {
				t.Errorf("GetChars(b, %d, %d) = %q, %v", at, n, s, err)
			}
		}
	}
	if s, err := prim.GetChars(nil, 0, 0); s != "" || err != api.OK {
		t.Errorf("GetChars(nil, 0, 0) = %q, %v", s, err)
	}
}

// P1.7
func TestGetCharsShort(t *testing.T) {
	s := newSea(8)
	for _, r := range charPlaces {
		if got, err := prim.GetChars(s.buffer, r[0], r[1]); got != "" || err != api.ErrShort {
			t.Errorf("GetChars(b, %d, %d) = %q, %v, not ErrShort", r[0], r[1], got, err)
		}
	}
	for _, r := range [][2]int{{0, 1}, {1, 0}, {-1, 1}} {
		if got, err := prim.GetChars(nil, r[0], r[1]); got != "" || err != api.ErrShort {
			t.Errorf("GetChars(nil, %d, %d) = %q, %v, not ErrShort", r[0], r[1], got, err)
		}
	}
}

// P1.8, P1.9
func TestPutChars(t *testing.T) {
	text := "x\x00\xFF\xC3é7"
	for at := 0; at <= 8; at++ {
		for n := 0; at+n <= 8; n++ {
			for length := 0; length <= min(n, len(text)); length++ {
				s := newSea(8)
				if err := prim.PutChars(s.buffer, at, n, text[:length]); err != api.OK {
					t.Errorf("PutChars(b, %d, %d, %q) = %v", at, n, text[:length], err)
				}
				s.expect(t, "PutChars", at, []byte(text[:length]+strings.Repeat("\x00", n-length)))
			}
		}
	}
	if err := prim.PutChars(nil, 0, 0, ""); err != api.OK {
		t.Errorf("PutChars(nil, 0, 0, \"\") = %v", err)
	}
}

// P1.8, P1.9: a place that is none is told ahead of a text that is too long.
func TestPutCharsShort(t *testing.T) {
	s := newSea(8)
	for _, r := range charPlaces {
		for _, text := range []string{"", "a", "abc", strings.Repeat("z", 20)} {
			if err := prim.PutChars(s.buffer, r[0], r[1], text); err != api.ErrShort {
				t.Errorf("PutChars(b, %d, %d, %q) = %v, not ErrShort", r[0], r[1], text, err)
			}
		}
	}
	s.expect(t, "PutChars beside ErrShort", 0, nil)
	if err := prim.PutChars(nil, 0, 1, "ab"); err != api.ErrShort {
		t.Errorf("PutChars(nil, 0, 1, \"ab\") = %v, not ErrShort", err)
	}
}

// P1.8, P1.9
func TestPutCharsTooLong(t *testing.T) {
	s := newSea(8)
	for at := 0; at <= 8; at++ {
		for n := 0; at+n <= 8; n++ {
			for _, more := range []int{1, 2, 20} {
				if err := prim.PutChars(s.buffer, at, n, strings.Repeat("z", n+more)); err != api.ErrChars {
					t.Errorf("PutChars(b, %d, %d, %d bytes) = %v, not ErrChars", at, n, n+more, err)
				}
			}
		}
	}
	s.expect(t, "PutChars beside ErrChars", 0, nil)
}

// P1.8
func TestPutCharsExamples(t *testing.T) {
	b := []byte{1, 2, 3, 4, 0xFF, 0xFE, 0x80, 0}
	if err := prim.PutChars(b, 1, 1, "ab"); err != api.ErrChars {
		t.Errorf("PutChars(b, 1, 1, ab) = %v", err)
	}
	if err := prim.PutChars(b, 8, 1, "abc"); err != api.ErrShort {
		t.Errorf("PutChars(b, 8, 1, abc) = %v", err)
	}
	if err := prim.PutChars(b, 1, 3, "ab"); err != api.OK {
		t.Errorf("PutChars(b, 1, 3, ab) = %v", err)
	}
	if need := []byte{1, 'a', 'b', 0, 0xFF, 0xFE, 0x80, 0}; !bytes.Equal(b, need) {
		t.Errorf("b is % X, not % X", b, need)
	}
}

// P1.9, P0.1: reading changes nothing, the room behind the buffer included.
func TestReadingChangesNothing(t *testing.T) {
	s := newSea(8)
	for _, p := range append(noTypes, allTypes...) {
		for _, o := range append(noOrders, orders...) {
			for at := -9; at <= 9; at++ {
				prim.Get(s.buffer, at, p, o)
			}
		}
	}
	for at := -9; at <= 9; at++ {
		for n := -9; n <= 9; n++ {
			prim.GetChars(s.buffer, at, n)
		}
	}
	s.expect(t, "Get and GetChars", 0, nil)
}

// P1.9: what was told stays as it was when the buffer changes, what is told next is the buffer's now, and one buffer's calls don't touch another.
func TestNoCallKeepsTheBuffer(t *testing.T) {
	a, b := []byte("abcdefgh"), []byte("ABCDEFGH")
	text, _ := prim.GetChars(a, 0, 8)
	word, _ := prim.Get(a, 0, api.Uint16, api.Big)
	prim.Put(a, 0, api.Uint16, api.Big, 0x3132)
	prim.PutChars(a, 2, 2, "3")
	if text != "abcdefgh" || word != 0x6162 {
		t.Errorf("told ahead: %q, %X", text, word)
	}
	if got, _ := prim.Get(a, 0, api.Uint16, api.Big); got != 0x3132 {
		t.Errorf("told behind: %X", got)
	}
	prim.PutChars(b, 0, 8, "new")
	prim.Put(b, 4, api.Uint32, api.Little, 7)
	if string(a) != "123\x00efgh" || string(b) != "new\x00\x07\x00\x00\x00" {
		t.Errorf("a is %q, b is %q", a, b)
	}
	clear(a)
	if got, err := prim.GetChars(a, 0, 2); got != "\x00\x00" || err != api.OK {
		t.Errorf("GetChars of a cleared buffer = %q, %v", got, err)
	}
}
