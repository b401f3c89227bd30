package cursor_test

import (
	"math"
	"slices"
	"testing"

	"stencil/api"
	"stencil/cursor"
)

// P17.1 to P17.7: the chapter's examples 1 to 4.
func TestExampleMessage(t *testing.T) {
	b := make([]byte, 10)
	c := begin(t, b, 2, api.Big)
	stands(t, c, 2, 2, 8)
	_, err := c.Get(2, api.Uint8)
	want(t, "1: Get(2, Uint8)", err, api.ErrLimit)
	at, err := c.Claim(3)
	want(t, "1: Claim(3)", at, 2)
	want(t, "1: Claim(3)", err, api.OK)
	stands(t, c, 2, 5, 5)
	want(t, "1: Put(3, Uint16, 258)", c.Put(3, api.Uint16, 258), api.OK)
	want(t, "1: bytes", string(b), "\x00\x00\x00\x01\x02\x00\x00\x00\x00\x00")
	want(t, "1: Put(4, Uint16, 1)", c.Put(4, api.Uint16, 1), api.ErrLimit)
	want(t, "1: Put(1, Uint8, 1)", c.Put(1, api.Uint8, 1), api.ErrLimit)
	want(t, "1: Put(9, 11, 1)", c.Put(9, 11, 1), api.ErrPrim)
	want(t, "1: Put(9, Uint8, 256)", c.Put(9, api.Uint8, 256), api.ErrRange)
	w, err := c.Get(3, api.Int16)
	want(t, "1: Get(3, Int16)", w, uint64(258))
	want(t, "1: Get(3, Int16)", err, api.OK)
	at, err = c.Claim(6)
	want(t, "1: Claim(6)", at, 0)
	want(t, "1: Claim(6)", err, api.ErrShort)
	at, err = c.Claim(-1)
	want(t, "1: Claim(-1)", at, 0)
	want(t, "1: Claim(-1)", err, api.ErrArg)
	stands(t, c, 2, 5, 5)

	g := dim(3, spot(api.Uint16, 0), spot(api.Uint8, 2))
	want(t, "2: PutDim with 7 and 255", c.PutDim(g, 7, 255), api.ErrRange)
	stands(t, c, 2, 5, 5)
	want(t, "2: PutDim with 7 and 2", c.PutDim(g, 7, 2), api.OK)
	want(t, "2: bytes", string(b), "\x00\x00\x00\x01\x02\x00\x07\x02\x00\x00")
	stands(t, c, 2, 8, 2)
	want(t, "2: PutDim with 7 and 255", c.PutDim(g, 7, 255), api.ErrRange)

	l := length(1, spot(api.Uint8, 0))
	want(t, "3: PutData", c.PutData(l, "x"), api.OK)
	want(t, "3: bytes", string(b), "\x00\x00\x00\x01\x02\x00\x07\x02\x01x")
	stands(t, c, 2, 10, 0)
	want(t, "3: PutData again", c.PutData(l, ""), api.ErrShort)
	stands(t, c, 2, 10, 0)

	d := begin(t, b, 5, api.Big)
	block, count, err := d.GetDim(g)
	want(t, "4: GetDim", [2]int{block, count}, [2]int{7, 2})
	want(t, "4: GetDim", err, api.OK)
	stands(t, d, 5, 8, 2)
	s, err := d.GetData(l)
	want(t, "4: GetData", s, "x")
	want(t, "4: GetData", err, api.OK)
	s, err = d.GetData(l)
	want(t, "4: GetData again", s, "")
	want(t, "4: GetData again", err, api.ErrShort)
	stands(t, d, 5, 10, 0)
	want(t, "4: bytes", string(b), "\x00\x00\x00\x01\x02\x00\x07\x02\x01x")
}

// P17.1, P17.3: the chapter's example 5.
func TestExampleEnds(t *testing.T) {
	b := make([]byte, 10)
	c, err := cursor.New(b, 11, api.Little)
	want(t, "New(b, 11, Little)", err, api.ErrBuffer)
	want(t, "New(b, 11, Little)", c, (*cursor.Cursor)(nil))
	c, err = cursor.New(b, 11, 2)
	want(t, "New(b, 11, 2)", err, api.ErrPrim)
	want(t, "New(b, 11, 2)", c, (*cursor.Cursor)(nil))
	c = begin(t, b, 10, api.Little)
	stands(t, c, 10, 10, 0)
	s, err := c.Chars(10, 0)
	want(t, "Chars(10, 0)", s, "")
	want(t, "Chars(10, 0)", err, api.OK)
	_, err = c.Chars(9, 0)
	want(t, "Chars(9, 0)", err, api.ErrLimit)
}

// P17.4: the chapter's example 6.
func TestExampleHead(t *testing.T) {
	h := api.Head{Size: 8, Block: spot(api.Uint16, 0), Template: spot(api.Uint16, 2), Schema: spot(api.Uint16, 4), Version: spot(api.Uint16, 6)}
	v := cursor.Head{Block: 1, Template: 2, Schema: 3, Version: 4}
	b := make([]byte, 8)
	c := begin(t, b, 0, api.Little)
	bad := h
	bad.Schema = spot(api.Uint16, 7)
	want(t, "PutHead with Schema {Uint16 7}", c.PutHead(bad, v), api.ErrArg)
	bad = h
	bad.Block = spot(api.Int16, 0)
	want(t, "PutHead with Block {Int16 0}", c.PutHead(bad, v), api.ErrArg)
	want(t, "PutHead with a Template of 65535", c.PutHead(h, cursor.Head{Block: 1, Template: 65535, Schema: 3, Version: 4}), api.ErrRange)
	stands(t, c, 0, 0, 8)
	want(t, "bytes", string(b), "\x00\x00\x00\x00\x00\x00\x00\x00")
	want(t, "PutHead", c.PutHead(h, v), api.OK)
	want(t, "bytes", string(b), "\x01\x00\x02\x00\x03\x00\x04\x00")
	stands(t, c, 0, 8, 0)
}

// P17.1: an order that is none is told ahead of a place that is none, and nothing is written.
func TestNew(t *testing.T) {
	for _, n := range []int{0, 1, 10} {
		whole := filled(n + 12)
		was := slices.Clone(whole)
		buffers := [][]byte{whole[:n], whole[:n:n]}
		if n == 0 {
			buffers = append(buffers, nil, []byte{})
		}
		for _, b := range buffers {
			for _, at := range append([]int{-2, -1, 0, n / 2, n - 1, n, n + 1, n + 2, n + 12}, farInts...) {
				newAt(t, b, at)
			}
		}
		if !slices.Equal(whole, was) {
			t.Errorf("New has changed the buffer of %d bytes", n)
		}
	}
}

func newAt(t *testing.T, b []byte, at int) {
	t.Helper()
	for _, o := range noOrders {
		if c, err := cursor.New(b, at, o); c != nil || err != api.ErrPrim {
			t.Errorf("New of %d bytes at %d, order %d = %v, %v, not ErrPrim", len(b), at, o, c, err)
		}
	}
	for _, o := range orders {
		c, err := cursor.New(b, at, o)
		if at < 0 || at > len(b) {
			if c != nil || err != api.ErrBuffer {
				t.Errorf("New of %d bytes at %d, order %d = %v, %v, not ErrBuffer", len(b), at, o, c, err)
			}
			continue
		}
		if c == nil || err != api.OK {
			t.Errorf("New of %d bytes at %d, order %d = %v, %v, not OK", len(b), at, o, c, err)
			continue
		}
		stands(t, c, at, at, len(b)-at)
	}
}

// P17.1: the cursor goes by the order that it was given.
func TestOrder(t *testing.T) {
	for _, r := range []struct {
		o     api.Endian
		bytes string
	}{{api.Little, "\x04\x03\x02\x01"}, {api.Big, "\x01\x02\x03\x04"}} {
		b := make([]byte, 4)
		c := begin(t, b, 0, r.o)
		claim(t, c, 4)
		want(t, "Put", c.Put(0, api.Uint32, 0x01020304), api.OK)
		want(t, "bytes", string(b), r.bytes)
		w, err := c.Get(0, api.Uint32)
		want(t, "Get", w, uint64(0x01020304))
		want(t, "Get", err, api.OK)
	}
}

// P17.2: claims of nothing, of just the room, of more, and of numbers that are none.
func TestClaim(t *testing.T) {
	b := filled(10)
	whole := slices.Clone(b)
	c := begin(t, b, 3, api.Little)
	for _, r := range []struct {
		n, place  int
		err       api.Errno
		end, room int
	}{
		{0, 3, api.OK, 3, 7},
		{8, 0, api.ErrShort, 3, 7},
		{-1, 0, api.ErrArg, 3, 7},
		{math.MinInt, 0, api.ErrArg, 3, 7},
		{math.MaxInt, 0, api.ErrShort, 3, 7},
		{math.MaxInt - 2, 0, api.ErrShort, 3, 7},
		{1, 3, api.OK, 4, 6},
		{0, 4, api.OK, 4, 6},
		{7, 0, api.ErrShort, 4, 6},
		{5, 4, api.OK, 9, 1},
		{2, 0, api.ErrShort, 9, 1},
		{1, 9, api.OK, 10, 0},
		{0, 10, api.OK, 10, 0},
		{1, 0, api.ErrShort, 10, 0},
		{-1, 0, api.ErrArg, 10, 0},
		{math.MaxInt, 0, api.ErrShort, 10, 0},
	} {
		place, err := c.Claim(r.n)
		if place != r.place || err != r.err {
			t.Errorf("Claim(%d) = %d, %v, not %d, %v", r.n, place, err, r.place, r.err)
		}
		stands(t, c, 3, r.end, r.room)
	}
	if !slices.Equal(b, whole) {
		t.Errorf("P17.2: the claims have changed bytes: % X", b)
	}
}

// P17.2: every start of a buffer, and every claim behind another.
func TestClaims(t *testing.T) {
	for n := range 6 {
		for at := range n + 1 {
			for first := range n - at + 1 {
				for _, more := range append([]int{-2, -1, 0, 1, 2, 3, 4, 5, 6, 7}, farInts...) {
					newTwin(t, filled(n), at, first, api.Little).do(call{name: "Claim", n: more})
				}
			}
		}
	}
}

// P17.1, P17.2: the room behind a buffer's length is none of it, and an empty buffer is as nil.
func TestRoomBehind(t *testing.T) {
	whole := filled(20)
	was := slices.Clone(whole)
	c := begin(t, whole[:5], 5, api.Little)
	stands(t, c, 5, 5, 0)
	if _, err := c.Claim(1); err != api.ErrShort {
		t.Errorf("Claim(1) behind the length: %v", err)
	}
	want(t, "PutHead", c.PutHead(plainHead(api.Uint8), cursor.Head{}), api.ErrShort)
	want(t, "PutDim", c.PutDim(dim(2, spot(api.Uint8, 0), spot(api.Uint8, 1)), 0, 0), api.ErrShort)
	want(t, "PutData", c.PutData(length(1, spot(api.Uint8, 0)), ""), api.ErrShort)
	_, err := c.GetHead(plainHead(api.Uint8))
	want(t, "GetHead", err, api.ErrShort)
	want(t, "Put", c.Put(5, api.Uint8, 1), api.ErrLimit)
	want(t, "SetChars", c.SetChars(5, 1, "a"), api.ErrLimit)
	if !slices.Equal(whole, was) {
		t.Errorf("the room behind the buffer is changed: % X", whole)
	}
	for _, b := range [][]byte{nil, {}, whole[:0]} {
		c := begin(t, b, 0, api.Big)
		stands(t, c, 0, 0, 0)
		claim(t, c, 0)
		s, err := c.Chars(0, 0)
		want(t, "Chars(0, 0)", s, "")
		want(t, "Chars(0, 0)", err, api.OK)
		want(t, "SetChars(0, 0)", c.SetChars(0, 0, ""), api.OK)
		_, err = c.Get(0, api.Uint8)
		want(t, "Get(0, Uint8)", err, api.ErrLimit)
		_, err = c.GetData(length(1, spot(api.Uint8, 0)))
		want(t, "GetData", err, api.ErrShort)
	}
}
