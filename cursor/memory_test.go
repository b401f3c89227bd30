package cursor_test

import (
	"slices"
	"testing"

	"stencil/api"
	"stencil/cursor"
)

// P17.7: a text that was answered stays as it is when the buffer is written over, by its owner or by the cursor.
func TestTextsAreCopies(t *testing.T) {
	b := []byte("\x03abc\x02de")
	l := length(1, spot(api.Uint8, 0))
	c := begin(t, b, 0, api.Little)
	first, _ := c.GetData(l)
	second, _ := c.GetData(l)
	chars, _ := c.Chars(1, 6)
	want(t, "SetChars", c.SetChars(0, 7, "1234567"), api.OK)
	want(t, "texts", first+" "+second+" "+chars, "abc de abc\x02de")
	for i := range b {
		b[i] = '!'
	}
	want(t, "texts", first+" "+second+" "+chars, "abc de abc\x02de")
}

// P17.7: what the caller writes into the buffer is seen by the calls behind it, and what the cursor writes by the caller.
func TestCallerIsSeen(t *testing.T) {
	b := make([]byte, 12)
	c := begin(t, b, 1, api.Big)
	claim(t, c, 2)
	b[1], b[2] = 1, 2
	w, _ := c.Get(1, api.Uint16)
	want(t, "Get", w, uint64(258))
	b[2] = 'z'
	s, _ := c.Chars(2, 1)
	want(t, "Chars", s, "z")
	copy(b[3:], "\x05\x06\x07\x08")
	v, _ := c.GetHead(plainHead(api.Uint8))
	want(t, "GetHead", v, cursor.Head{Block: 5, Template: 6, Schema: 7, Version: 8})
	copy(b[7:], "\x09\x0A\x02")
	block, count, _ := c.GetDim(dim(2, spot(api.Uint8, 0), spot(api.Uint8, 1)))
	want(t, "GetDim", [2]int{block, count}, [2]int{9, 10})
	l := length(1, spot(api.Uint8, 0))
	b[9] = 3
	s, err := c.GetData(l)
	want(t, "GetData of 3", s, "")
	want(t, "GetData of 3", err, api.ErrShort)
	b[9], b[10], b[11] = 2, 'h', 'i'
	s, err = c.GetData(l)
	want(t, "GetData of 2", s, "hi")
	want(t, "GetData of 2", err, api.OK)
	b[1] = 9
	w, _ = c.Get(1, api.Uint8)
	want(t, "Get", w, uint64(9))
	want(t, "Put", c.Put(1, api.Uint8, 77), api.OK)
	want(t, "the caller's byte", b[1], byte(77))
}

// P17.7: two cursors over one buffer see what the other writes, and each has its own end.
func TestTwoCursors(t *testing.T) {
	b := make([]byte, 6)
	c, d := begin(t, b, 1, api.Little), begin(t, b, 0, api.Big)
	claim(t, c, 4)
	claim(t, d, 3)
	want(t, "Put", c.Put(1, api.Uint16, 0x0102), api.OK)
	w, _ := d.Get(1, api.Uint16)
	want(t, "Get", w, uint64(0x0201))
	stands(t, c, 1, 5, 1)
	stands(t, d, 0, 3, 3)
}

// P17.1, P17.7: what the caller puts behind the buffer's length, or cuts off his own list, changes nothing of the cursor's.
func TestCallersList(t *testing.T) {
	whole := make([]byte, 4, 10)
	c := begin(t, whole, 0, api.Little)
	claim(t, c, 4)
	whole = append(whole, 1, 2, 3)
	stands(t, c, 0, 4, 0)
	whole = whole[:1]
	want(t, "Put", c.Put(3, api.Uint8, 5), api.OK)
	want(t, "bytes", string(whole[:7]), "\x00\x00\x00\x05\x01\x02\x03")
}

// P17.7: calls that only ask change no byte, and refused calls none either.
func TestAskedOnly(t *testing.T) {
	b := []byte("\x01\x02\x03\x04\x05\x06\x02hi\x09zzz")
	was := slices.Clone(b)
	c := begin(t, b, 0, api.Little)
	c.GetHead(plainHead(api.Uint8))
	c.GetDim(dim(2, spot(api.Uint8, 0), spot(api.Uint8, 1)))
	c.GetData(length(1, spot(api.Uint8, 0)))
	stands(t, c, 0, 9, 4)
	c.GetData(length(1, spot(api.Uint8, 0)))
	stands(t, c, 0, 9, 4)
	c.Claim(2)
	c.Claim(9)
	for at := range 13 {
		for _, p := range allTypes {
			c.Get(at, p)
		}
		c.Chars(at, 2)
	}
	if !slices.Equal(b, was) {
		t.Errorf("bytes are changed: % X", b)
	}
	c.Put(12, api.Uint8, 1)
	c.Put(0, api.Uint8, 256)
	c.SetChars(9, 3, "")
	c.SetChars(0, 2, "abc")
	c.PutHead(plainHead(api.Uint8), cursor.Head{})
	c.PutHead(api.Head{Size: 1}, cursor.Head{Version: 255})
	c.PutDim(dim(2, spot(api.Uint8, 0), spot(api.Uint8, 1)), 1, 255)
	c.PutDim(dim(3, spot(api.Uint8, 0), spot(api.Uint8, 1)), 1, 1)
	c.PutData(length(1, spot(api.Uint8, 0)), "zz")
	if !slices.Equal(b, was) {
		t.Errorf("refused calls have changed bytes: % X", b)
	}
	stands(t, c, 0, 11, 2)
}

// P17.5, P17.6: nothing of a token is changed, and a cursor keeps none of its memory.
func TestTokensStay(t *testing.T) {
	words := []uint64{1, 2, 3, 4}
	g, l := dim(2, spot(api.Uint8, 0), spot(api.Uint8, 1)), length(1, spot(api.Uint8, 0))
	g.Const, l.Const = words[:2], words[:2]
	c := begin(t, make([]byte, 10), 0, api.Little)
	want(t, "PutDim", c.PutDim(g, 1, 2), api.OK)
	want(t, "PutData", c.PutData(l, "a"), api.OK)
	c.GetDim(g)
	c.GetData(l)
	if !slices.Equal(words, []uint64{1, 2, 3, 4}) {
		t.Errorf("a token's words are changed: %v", words)
	}
}
