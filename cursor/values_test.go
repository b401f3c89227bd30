package cursor_test

import (
	"math"
	"strings"
	"testing"

	"stencil/api"
)

// neg is the word of a number below 0.
func neg(n uint64) uint64 { return -n }

// edgeWords are the words at the ends of a type, and those one beyond, of this type and of all others.
func edgeWords() []uint64 {
	ws := []uint64{0, 1, 0x0102030405060708, 0x01020304, 0x81828384, 0x0102, 0x8182}
	for _, bits := range []uint{7, 8, 15, 16, 31, 32, 63} {
		ws = append(ws, 1<<bits-1, 1<<bits, neg(1<<bits)-1, neg(1<<bits))
	}
	return append(ws, neg(1))
}

// P17.3: the ends of each type, and one beyond.
func TestPutWords(t *testing.T) {
	for _, r := range []struct {
		p      api.Prim
		w      uint64
		err    api.Errno
		little string
	}{
		{api.Char, 0, api.OK, "\x00"},
		{api.Char, 255, api.OK, "\xFF"},
		{api.Char, 256, api.ErrRange, ""},
		{api.Int8, 127, api.OK, "\x7F"},
		{api.Int8, 128, api.ErrRange, ""},
		{api.Int8, neg(128), api.OK, "\x80"},
		{api.Int8, neg(129), api.ErrRange, ""},
		{api.Int8, 255, api.ErrRange, ""},
		{api.Int16, 32767, api.OK, "\xFF\x7F"},
		{api.Int16, 32768, api.ErrRange, ""},
		{api.Int16, neg(32768), api.OK, "\x00\x80"},
		{api.Int16, neg(32769), api.ErrRange, ""},
		{api.Int32, 1<<31 - 1, api.OK, "\xFF\xFF\xFF\x7F"},
		{api.Int32, 1 << 31, api.ErrRange, ""},
		{api.Int32, neg(1 << 31), api.OK, "\x00\x00\x00\x80"},
		{api.Int32, neg(1<<31 + 1), api.ErrRange, ""},
		{api.Int64, 1<<63 - 1, api.OK, "\xFF\xFF\xFF\xFF\xFF\xFF\xFF\x7F"},
		{api.Int64, 1 << 63, api.OK, "\x00\x00\x00\x00\x00\x00\x00\x80"},
		{api.Uint8, 255, api.OK, "\xFF"},
		{api.Uint8, 256, api.ErrRange, ""},
		{api.Uint8, neg(1), api.ErrRange, ""},
		{api.Uint16, 65535, api.OK, "\xFF\xFF"},
		{api.Uint16, 65536, api.ErrRange, ""},
		{api.Uint32, 1<<32 - 1, api.OK, "\xFF\xFF\xFF\xFF"},
		{api.Uint32, 1 << 32, api.ErrRange, ""},
		{api.Uint64, math.MaxUint64, api.OK, "\xFF\xFF\xFF\xFF\xFF\xFF\xFF\xFF"},
		{api.Float, 0x7FC00000, api.OK, "\x00\x00\xC0\x7F"},
		{api.Float, 1 << 32, api.ErrRange, ""},
		{api.Double, 0x7FF8000000000000, api.OK, "\x00\x00\x00\x00\x00\x00\xF8\x7F"},
	} {
		b := []byte(strings.Repeat("?", 12))
		c := begin(t, b, 1, api.Little)
		claim(t, c, 10)
		if err := c.Put(2, r.p, r.w); err != r.err {
			t.Errorf("Put(2, %d, %d) = %v, not %v", r.p, r.w, err, r.err)
		}
		want(t, "bytes", string(b), "??"+r.little+strings.Repeat("?", 10-len(r.little)))
		if r.err != api.OK {
			continue
		}
		if w, err := c.Get(2, r.p); w != r.w || err != api.OK {
			t.Errorf("Get(2, %d) = %d, %v, not %d", r.p, w, err, r.w)
		}
	}
}

// P17.3: which error comes first.
func TestValueErrors(t *testing.T) {
	b := filled(8)
	c := begin(t, b, 2, api.Big)
	claim(t, c, 4)
	for _, at := range []int{-1, 0, 1, 2, 3, 5, 6, 7, 8, 9, math.MinInt, math.MaxInt} {
		for _, p := range noTypes {
			if w, err := c.Get(at, p); w != 0 || err != api.ErrPrim {
				t.Errorf("Get(%d, %d) = %d, %v, not ErrPrim", at, p, w, err)
			}
			if err := c.Put(at, p, neg(1)); err != api.ErrPrim {
				t.Errorf("Put(%d, %d, -1) = %v, not ErrPrim", at, p, err)
			}
		}
		if err := c.Put(at, api.Uint16, 65536); err != api.ErrRange {
			t.Errorf("Put(%d, Uint16, 65536) = %v, not ErrRange", at, err)
		}
		must := api.ErrLimit
		if at >= 2 && at <= 4 {
			must = api.OK
		}
		if err := c.Put(at, api.Uint16, 65535); err != must {
			t.Errorf("Put(%d, Uint16, 65535) = %v, not %v", at, err, must)
		}
		if w, err := c.Get(at, api.Uint16); err != must || err != api.OK && w != 0 {
			t.Errorf("Get(%d, Uint16) = %d, %v, not %v", at, w, err, must)
		}
		if s, err := c.Chars(at, -1); s != "" || err != api.ErrArg {
			t.Errorf("Chars(%d, -1) = %q, %v, not ErrArg", at, s, err)
		}
		if err := c.SetChars(at, -1, "abc"); err != api.ErrArg {
			t.Errorf("SetChars(%d, -1) = %v, not ErrArg", at, err)
		}
	}
	want(t, "SetChars outside, too long", c.SetChars(5, 2, "abc"), api.ErrLimit)
	want(t, "SetChars inside, too long", c.SetChars(4, 2, "abc"), api.ErrChars)
	want(t, "SetChars(1, 0, a)", c.SetChars(1, 0, "a"), api.ErrLimit)
	want(t, "SetChars(2, 0, a)", c.SetChars(2, 0, "a"), api.ErrChars)
	want(t, "SetChars(6, 0, a)", c.SetChars(6, 0, "a"), api.ErrChars)
	want(t, "SetChars(7, 0, a)", c.SetChars(7, 0, "a"), api.ErrLimit)
}

// P17.3: each type at each place, of messages that lie anywhere in a buffer.
func TestValuePlaces(t *testing.T) {
	const n = 11
	words := edgeWords()
	for start := range n + 1 {
		for claimed := range n - start + 1 {
			w := newTwin(t, filled(n), start, claimed, api.Endian((start+claimed)%2))
			for at := -2; at <= n+2; at++ {
				w.values(at, words)
			}
			for _, at := range farInts {
				w.values(at, words[:2])
			}
		}
	}
}

func (w *twin) values(at int, words []uint64) {
	w.t.Helper()
	for _, p := range append(noTypes, allTypes...) {
		for _, word := range words {
			w.do(call{name: "Put", at: at, prim: p, word: word})
			w.do(call{name: "Get", at: at, prim: p})
		}
	}
}

// P17.3: what is put is read back, in both orders; a place that the caller filled is read as each type.
func TestValuesBack(t *testing.T) {
	for _, o := range orders {
		for _, p := range allTypes {
			w := newTwin(t, filled(12), 1, 10, o)
			for _, word := range edgeWords() {
				if w.do(call{name: "Put", at: 2, prim: p, word: word}).err != api.OK {
					continue
				}
				if got := w.do(call{name: "Get", at: 2, prim: p}); got.word != word || got.err != api.OK {
					t.Errorf("P17.3: %d put as %d is read as %d, %v", word, p, got.word, got.err)
				}
			}
		}
	}
}

// P17.3: texts of all lengths at all places.
func TestCharsPlaces(t *testing.T) {
	const n = 6
	for start := range n + 1 {
		for claimed := range n - start + 1 {
			w := newTwin(t, filled(n), start, claimed, api.Big)
			for at := -2; at <= n+2; at++ {
				for count := -2; count <= n+2; count++ {
					w.texts(at, count)
				}
				for _, count := range farInts {
					w.texts(at, count)
				}
			}
			for _, at := range farInts {
				for _, count := range append([]int{-1, 0, 1, n}, farInts...) {
					w.texts(at, count)
				}
			}
		}
	}
}

func (w *twin) texts(at, n int) {
	w.t.Helper()
	w.do(call{name: "Chars", at: at, n: n})
	for _, s := range []string{"", "a", "\x00b", "abc", "\xFF\xFE\x80\x00", "abcdef", "abcdefg"} {
		w.do(call{name: "SetChars", at: at, n: n, text: s})
	}
	w.do(call{name: "Chars", at: at, n: n})
}

// P17.3: zeros stand behind a text, all bytes may be in it, and it is read just as it stands.
func TestChars(t *testing.T) {
	b := []byte("abcdefgh")
	c := begin(t, b, 1, api.Little)
	claim(t, c, 6)
	want(t, "SetChars(2, 4, hi)", c.SetChars(2, 4, "hi"), api.OK)
	want(t, "bytes", string(b), "abhi\x00\x00gh")
	s, err := c.Chars(1, 6)
	want(t, "Chars(1, 6)", s, "bhi\x00\x00g")
	want(t, "Chars(1, 6)", err, api.OK)
	want(t, "SetChars(1, 6, ..)", c.SetChars(1, 6, "\xFF\x00\x80xyz"), api.OK)
	want(t, "bytes", string(b), "a\xFF\x00\x80xyzh")
	want(t, "SetChars(1, 6) of seven", c.SetChars(1, 6, "1234567"), api.ErrChars)
	want(t, "SetChars(0, 2)", c.SetChars(0, 2, ""), api.ErrLimit)
	want(t, "SetChars(6, 2)", c.SetChars(6, 2, ""), api.ErrLimit)
	want(t, "SetChars(7, 0)", c.SetChars(7, 0, ""), api.OK)
	want(t, "SetChars(8, 0)", c.SetChars(8, 0, ""), api.ErrLimit)
	want(t, "bytes", string(b), "a\xFF\x00\x80xyzh")
	want(t, "SetChars(1, 6, nothing)", c.SetChars(1, 6, ""), api.OK)
	want(t, "bytes", string(b), "a\x00\x00\x00\x00\x00\x00h")
}
