package cursor_test

import (
	"fmt"
	"math"
	"strings"
	"testing"

	"stencil/api"
	"stencil/cursor"
)

// spotOffsets are places below a piece, at its ends and beyond them.
func spotOffsets(size int) []int {
	offsets := append([]int{-2, -1, 0, 1, 2}, farInts...)
	for k := -5; k <= 2; k++ {
		offsets = append(offsets, size+k)
	}
	return offsets
}

// sizes are those of a piece: none, the least and the greatest, and one more.
var sizes = []int{math.MinInt, -1, 0, 1, 2, 3, 4, 5, 8, 9, api.MaxBlock - 1, api.MaxBlock, api.MaxBlock + 1, math.MaxInt - 1, math.MaxInt}

// ample is a buffer that has room for every piece but data of a Uint32's length.
func ample() []byte { return filled(api.MaxBlock + 100) }

// with is a head with another spot in the place of the i-th.
func with(h api.Head, i int, s api.Spot) api.Head {
	*[]*api.Spot{&h.Block, &h.Template, &h.Schema, &h.Version}[i] = s
	return h
}

// numbered are a header's numbers with another in the place of the i-th.
func numbered(v cursor.Head, i int, n uint64) cursor.Head {
	*[]*uint64{&v.Block, &v.Template, &v.Schema, &v.Version}[i] = n
	return v
}

// P17.4: what is no good head, of a head whose other spots are good.
func TestBadHeads(t *testing.T) {
	good := plainHead(api.Uint16)
	for _, r := range []struct {
		what string
		h    api.Head
		err  api.Errno
	}{
		{"a good one", good, api.OK},
		{"nothing", api.Head{}, api.ErrArg},
		{"a type that is a Char", with(good, 0, spot(api.Char, 0)), api.ErrArg},
		{"a type that is an Int8", with(good, 1, spot(api.Int8, 0)), api.ErrArg},
		{"a type that is a Uint64", with(good, 2, spot(api.Uint64, 0)), api.ErrArg},
		{"a type that is a Float", with(good, 3, spot(api.Float, 0)), api.ErrArg},
		{"no type", with(good, 3, spot(11, 0)), api.ErrArg},
		{"no type below 0", with(good, 0, spot(-1, 0)), api.ErrArg},
		{"a spot below 0", with(good, 0, spot(api.Uint8, -1)), api.ErrArg},
		{"a Uint8 at the end", with(good, 1, spot(api.Uint8, 7)), api.OK},
		{"a Uint8 behind the end", with(good, 1, spot(api.Uint8, 8)), api.ErrArg},
		{"a Uint16 at the end", with(good, 2, spot(api.Uint16, 6)), api.OK},
		{"a Uint16 across the end", with(good, 2, spot(api.Uint16, 7)), api.ErrArg},
		{"a Uint32 at the end", with(good, 3, spot(api.Uint32, 4)), api.OK},
		{"a Uint32 across the end", with(good, 3, spot(api.Uint32, 5)), api.ErrArg},
		{"a spot far behind", with(good, 3, spot(api.Uint32, math.MaxInt)), api.ErrArg},
		{"a spot far ahead", with(good, 3, spot(api.Uint32, math.MinInt)), api.ErrArg},
	} {
		c := begin(t, filled(20), 3, api.Little)
		if err := c.PutHead(r.h, cursor.Head{}); err != r.err {
			t.Errorf("P17.4: PutHead of %s = %v, not %v", r.what, err, r.err)
		}
		c = begin(t, filled(20), 3, api.Little)
		if v, err := c.GetHead(r.h); err != r.err || err != api.OK && v != (cursor.Head{}) {
			t.Errorf("P17.4: GetHead of %s = %v, %v, not %v", r.what, v, err, r.err)
		}
	}
}

// P17.4: each of the four spots of each type at each place, of heads of all sizes.
func TestHeadSpots(t *testing.T) {
	b := filled(40)
	for _, size := range []int{-1, 0, 1, 2, 3, 4, 5, 8, 12} {
		other := api.Head{Size: size, Block: spot(api.Uint8, 0), Template: spot(api.Uint8, 0), Schema: spot(api.Uint8, 0), Version: spot(api.Uint8, 0)}
		for i := range 4 {
			for _, p := range append(noTypes, allTypes...) {
				for _, offset := range spotOffsets(size) {
					h := with(other, i, spot(p, offset))
					newTwin(t, b, 2, 1, api.Little).do(call{name: "PutHead", head: h, numbers: cursor.Head{Block: 1, Template: 2, Schema: 3, Version: 4}})
					newTwin(t, b, 2, 1, api.Big).do(call{name: "GetHead", head: h})
				}
			}
		}
	}
}

// P17.4 to P17.6: sizes that are none, and the greatest that is one.
func TestSizes(t *testing.T) {
	b := ample()
	for _, size := range sizes {
		must := api.OK
		if size < 1 || size > api.MaxBlock {
			must = api.ErrArg
		}
		// The last spot stands at the very end, where the size has one.
		last := spot(api.Uint8, max(1, min(size, api.MaxBlock))-1)
		h := api.Head{Size: size, Block: spot(api.Uint8, 0), Template: spot(api.Uint8, 0), Schema: spot(api.Uint8, 0), Version: last}
		for _, x := range []call{
			{name: "PutHead", head: h, numbers: cursor.Head{Version: 7}},
			{name: "GetHead", head: h},
			{name: "PutDim", token: dim(size, spot(api.Uint8, 0), last), count: 7},
			{name: "GetDim", token: dim(size, spot(api.Uint8, 0), last)},
			{name: "PutData", token: length(size, last), text: "seven.."},
		} {
			w := newTwin(t, b, 3, 0, api.Little)
			if got := w.do(x); got.err != must {
				t.Errorf("%s = %v, not %v", short(x), got.err, must)
			}
		}
		w := newTwin(t, b, 3, 0, api.Little)
		w.callerWrites(3+last.Offset, 7)
		if got := w.do(call{name: "GetData", token: length(size, last)}); got.err != must || len(got.text) != 7 && must == api.OK {
			t.Errorf("GetData of the size %d = %s, not %v", size, short(got), must)
		}
	}
}

// callerWrites changes a byte of the buffer, as its owner may.
func (w *twin) callerWrites(at int, n byte) {
	w.buffer()[at], w.m.bytes[at] = n, n
}

// P17.4 to P17.6: just the greatest number of a spot of each type, and one more.
func TestGreatest(t *testing.T) {
	for _, p := range spotted {
		top := most(spot(p, 0))
		h := plainHead(p)
		small := cursor.Head{Block: 1, Template: 2, Schema: 3, Version: 4}
		for _, o := range orders {
			for i := range 4 {
				for _, n := range []uint64{0, top - 1, top, top + 1, top + 2, 256, 65536, 1 << 32, 1<<32 + 1, 1 << 63, math.MaxUint64} {
					w := newTwin(t, filled(30), 3, 2, o)
					must := api.OK
					if n > top {
						must = api.ErrRange
					}
					x := call{name: "PutHead", head: h, numbers: numbered(small, i, n)}
					if got := w.do(x); got.err != must {
						t.Errorf("P17.4: %s = %v, not %v", short(x), got.err, must)
					}
				}
			}
			for _, n := range []int{math.MinInt, -1, 0, int(top) - 1, int(top), int(top) + 1, 256, 65536, 1 << 32, 1<<32 + 1, math.MaxInt} {
				must := api.OK
				if n < 0 || uint64(n) > top {
					must = api.ErrRange
				}
				for _, x := range []call{
					{name: "PutDim", token: dim(2*sizeOf(p), spot(p, 0), spot(p, sizeOf(p))), block: n, count: 1},
					{name: "PutDim", token: dim(2*sizeOf(p), spot(p, 0), spot(p, sizeOf(p))), block: 1, count: n},
				} {
					w := newTwin(t, filled(30), 3, 2, o)
					if got := w.do(x); got.err != must {
						t.Errorf("P17.5: %s = %v, not %v", short(x), got.err, must)
					}
				}
			}
		}
	}
}

// P17.4, P17.5: numbers whose spots have other types each are held each against its own.
func TestGreatestMixed(t *testing.T) {
	h := api.Head{Size: 8, Block: spot(api.Uint32, 4), Template: spot(api.Uint8, 3), Schema: spot(api.Uint16, 1), Version: spot(api.Uint8, 0)}
	for _, r := range []struct {
		v   cursor.Head
		err api.Errno
	}{
		{cursor.Head{Block: 4294967294, Template: 254, Schema: 65534, Version: 254}, api.OK},
		{cursor.Head{Block: 4294967295, Template: 254, Schema: 65534, Version: 254}, api.ErrRange},
		{cursor.Head{Block: 4294967294, Template: 255, Schema: 65534, Version: 254}, api.ErrRange},
		{cursor.Head{Block: 4294967294, Template: 254, Schema: 65535, Version: 254}, api.ErrRange},
		{cursor.Head{Block: 4294967294, Template: 254, Schema: 65534, Version: 255}, api.ErrRange},
	} {
		w := newTwin(t, filled(10), 1, 0, api.Big)
		want(t, short(r.v), w.do(call{name: "PutHead", head: h, numbers: r.v}).err, r.err)
	}
	d := dim(3, spot(api.Uint8, 2), spot(api.Uint16, 0))
	w := newTwin(t, filled(10), 1, 0, api.Big)
	want(t, "PutDim 255 255", w.do(call{name: "PutDim", token: d, block: 255, count: 255}).err, api.ErrRange)
	want(t, "PutDim 254 65535", w.do(call{name: "PutDim", token: d, block: 254, count: 65535}).err, api.ErrRange)
	want(t, "PutDim 254 65534", w.do(call{name: "PutDim", token: d, block: 254, count: 65534}).err, api.OK)
	want(t, "bytes", string(w.buffer()[1:4]), "\xFF\xFE\xFE")
}

// P17.6: data of just as many bytes as its length may tell, and of one more.
func TestGreatestData(t *testing.T) {
	for _, r := range []struct {
		p   api.Prim
		n   int
		err api.Errno
	}{
		{api.Uint8, 253, api.OK}, {api.Uint8, 254, api.OK}, {api.Uint8, 255, api.ErrData}, {api.Uint8, 256, api.ErrData},
		{api.Uint16, 255, api.OK}, {api.Uint16, 65533, api.OK}, {api.Uint16, 65534, api.OK}, {api.Uint16, 65535, api.ErrData}, {api.Uint16, 65536, api.ErrData},
		{api.Uint32, 65535, api.OK}, {api.Uint32, 65536, api.OK}, {api.Uint32, 70000, api.OK},
	} {
		for _, o := range orders {
			l, s := length(sizeOf(r.p), spot(r.p, 0)), strings.Repeat("data!", r.n/5+1)[:r.n]
			w := newTwin(t, filled(70010), 2, 1, o)
			want(t, fmt.Sprintf("PutData of type %d, %d bytes", r.p, r.n), w.do(call{name: "PutData", token: l, text: s}).err, r.err)
			if r.err != api.OK {
				continue
			}
			back := begin(t, w.buffer(), 3, o)
			got, err := back.GetData(l)
			want(t, "GetData", got, s)
			want(t, "GetData", err, api.OK)
			w = newTwin(t, filled(3), 2, 1, o)
			want(t, "PutData without room", w.do(call{name: "PutData", token: l, text: s}).err, api.ErrShort)
		}
	}
	// What is too long is told ahead of the room that is missing.
	w := newTwin(t, nil, 0, 0, api.Little)
	want(t, "PutData of 255 bytes without room", w.do(call{name: "PutData", token: length(1, spot(api.Uint8, 0)), text: strings.Repeat("a", 255)}).err, api.ErrData)
}

// pieces are calls that claim bytes, and how many.
func pieces() map[int][]call {
	h := api.Head{Size: 9, Block: spot(api.Uint16, 1), Template: spot(api.Uint8, 3), Schema: spot(api.Uint16, 4), Version: spot(api.Uint16, 6)}
	d := dim(4, spot(api.Uint16, 0), spot(api.Uint8, 3))
	l := length(2, spot(api.Uint8, 1))
	return map[int][]call{
		9: {{name: "PutHead", head: h, numbers: cursor.Head{Block: 1, Template: 2, Schema: 3, Version: 4}}, {name: "GetHead", head: h}},
		4: {{name: "PutDim", token: d, block: 5, count: 6}, {name: "GetDim", token: d}},
		2: {{name: "PutData", token: l, text: ""}},
		3: {{name: "PutData", token: l, text: "a"}},
		7: {{name: "PutData", token: l, text: "hello"}, {name: "Claim", n: 7}},
		1: {{name: "Claim", n: 1}},
	}
}

// P17.2, P17.4 to P17.6: room of just what is wanted, and of one byte less.
func TestJustRoom(t *testing.T) {
	for need, calls := range pieces() {
		for _, x := range calls {
			for room := range need + 3 {
				must := api.ErrShort
				if room >= need {
					must = api.OK
				}
				w := newTwin(t, filled(5+room), 3, 2, api.Little)
				if got := w.do(x); got.err != must {
					t.Errorf("%s with the room %d = %v, not %v", short(x), room, got.err, must)
				}
				if must == api.OK {
					stands(t, w.c, 3, 5+need, room-need)
				} else {
					stands(t, w.c, 3, 5, room)
				}
			}
		}
	}
}

// P17.4 to P17.6: a wrong argument is told ahead of a wrong number, and both ahead of room that is missing.
func TestPieceErrors(t *testing.T) {
	c := begin(t, nil, 0, api.Little)
	h := plainHead(api.Uint8)
	bad := with(h, 3, spot(api.Uint8, 4))
	far := cursor.Head{Version: 255}
	want(t, "PutHead: bad, far, short", c.PutHead(bad, far), api.ErrArg)
	want(t, "PutHead: far, short", c.PutHead(h, far), api.ErrRange)
	want(t, "PutHead: short", c.PutHead(h, cursor.Head{}), api.ErrShort)
	_, err := c.GetHead(bad)
	want(t, "GetHead: bad, short", err, api.ErrArg)
	_, err = c.GetHead(h)
	want(t, "GetHead: short", err, api.ErrShort)

	d := dim(2, spot(api.Uint8, 0), spot(api.Uint8, 1))
	bent := dim(2, spot(api.Uint8, 0), spot(api.Uint16, 1))
	want(t, "PutDim: bad, far, short", c.PutDim(bent, -1, -1), api.ErrArg)
	want(t, "PutDim: below 0, short", c.PutDim(d, -1, 0), api.ErrRange)
	want(t, "PutDim: below 0, short", c.PutDim(d, 0, -1), api.ErrRange)
	want(t, "PutDim: far, short", c.PutDim(d, 255, 0), api.ErrRange)
	want(t, "PutDim: short", c.PutDim(d, 0, 0), api.ErrShort)
	_, _, err = c.GetDim(bent)
	want(t, "GetDim: bad, short", err, api.ErrArg)
	_, _, err = c.GetDim(d)
	want(t, "GetDim: short", err, api.ErrShort)

	l := length(1, spot(api.Uint8, 0))
	long := strings.Repeat("a", 255)
	want(t, "PutData: bad, long, short", c.PutData(length(1, spot(api.Uint8, 1)), long), api.ErrArg)
	want(t, "PutData: long, short", c.PutData(l, long), api.ErrData)
	want(t, "PutData: short", c.PutData(l, ""), api.ErrShort)
	_, err = c.GetData(length(1, spot(api.Uint8, 1)))
	want(t, "GetData: bad, short", err, api.ErrArg)
	_, err = c.GetData(l)
	want(t, "GetData: short", err, api.ErrShort)
	stands(t, c, 0, 0, 0)
}

// P17.5, P17.6: tokens of every other Op are refused, whatever else they say.
func TestOps(t *testing.T) {
	for _, op := range []api.TokenOp{math.MinInt, -1, 0, 1, 2, 3, 4, 5, 6, 7, 8, 9, 10, 11, 12, 13, 14, 15, 16, math.MaxInt} {
		token := api.Token{Op: op, Name: "t", Size: 2, Length: 3, Block: 4, Full: 5, A: spot(api.Uint8, 0), B: spot(api.Uint8, 1), Pair: 6}
		group, data := api.ErrArg, api.ErrArg
		if op == api.BeginGroup {
			group = api.OK
		}
		if op == api.BeginData {
			data = api.OK
		}
		for _, x := range []struct {
			name string
			must api.Errno
		}{{"PutDim", group}, {"GetDim", group}, {"PutData", data}, {"GetData", data}} {
			w := newTwin(t, make([]byte, 9), 1, 1, api.Big)
			if got := w.do(call{name: x.name, token: token}); got.err != x.must {
				t.Errorf("%s of the Op %d = %v, not %v", x.name, op, got.err, x.must)
			}
		}
	}
}

// P17.5, P17.6: A and B of each type at each place. (Data has no B: whatever stands there isn't looked at.)
func TestTokenSpots(t *testing.T) {
	b := make([]byte, 40)
	for i := range b {
		b[i] = byte(i % 4)
	}
	for _, size := range []int{-1, 0, 1, 2, 3, 4, 5, 8} {
		for _, p := range append(noTypes, allTypes...) {
			for _, offset := range spotOffsets(size) {
				s, plain := spot(p, offset), spot(api.Uint8, 0)
				odd := length(size, plain)
				odd.B = s
				for _, x := range []call{
					{name: "PutDim", token: dim(size, s, plain), block: 1, count: 2},
					{name: "PutDim", token: dim(size, plain, s), block: 1, count: 2},
					{name: "GetDim", token: dim(size, s, plain)},
					{name: "GetDim", token: dim(size, plain, s)},
					{name: "PutData", token: length(size, s), text: "abc"},
					{name: "GetData", token: length(size, s)},
					{name: "PutData", token: odd, text: "abc"},
					{name: "GetData", token: odd},
				} {
					newTwin(t, b, 2, 1, api.Little).do(x)
					newTwin(t, b, 3, 1, api.Big).do(x)
				}
			}
		}
	}
}

// P17.4 to P17.6: bytes between the spots are 0, those outside stay; what is put is read back, in both orders.
func TestPiecesBack(t *testing.T) {
	h := api.Head{Size: 14, Block: spot(api.Uint32, 9), Template: spot(api.Uint16, 1), Schema: spot(api.Uint8, 4), Version: spot(api.Uint16, 6)}
	v := cursor.Head{Block: 0x01020304, Template: 0x0506, Schema: 7, Version: 0x0809}
	d := dim(9, spot(api.Uint16, 6), spot(api.Uint32, 1))
	l := length(5, spot(api.Uint16, 2))
	for _, r := range []struct {
		o     api.Endian
		bytes string
	}{
		{api.Little, "???" + "\x00\x06\x05\x00\x07\x00\x09\x08\x00\x04\x03\x02\x01\x00" + "\x00\x0D\x0C\x0B\x0A\x00\x0F\x0E\x00" + "\x00\x00\x02\x00\x00" + "hi" + "??"},
		{api.Big, "???" + "\x00\x05\x06\x00\x07\x00\x08\x09\x00\x01\x02\x03\x04\x00" + "\x00\x0A\x0B\x0C\x0D\x00\x0E\x0F\x00" + "\x00\x00\x00\x02\x00" + "hi" + "??"},
	} {
		b := []byte(strings.Repeat("?", len(r.bytes)))
		c := begin(t, b, 3, r.o)
		want(t, "PutHead", c.PutHead(h, v), api.OK)
		want(t, "PutDim", c.PutDim(d, 0x0E0F, 0x0A0B0C0D), api.OK)
		want(t, "PutData", c.PutData(l, "hi"), api.OK)
		want(t, "bytes", string(b), r.bytes)
		stands(t, c, 3, 33, 2)

		back := begin(t, b, 3, r.o)
		got, err := back.GetHead(h)
		want(t, "GetHead", got, v)
		want(t, "GetHead", err, api.OK)
		stands(t, back, 3, 17, 18)
		block, count, err := back.GetDim(d)
		want(t, "GetDim", [2]int{block, count}, [2]int{0x0E0F, 0x0A0B0C0D})
		want(t, "GetDim", err, api.OK)
		stands(t, back, 3, 26, 9)
		s, err := back.GetData(l)
		want(t, "GetData", s, "hi")
		want(t, "GetData", err, api.OK)
		stands(t, back, 3, 33, 2)
		want(t, "bytes", string(b), r.bytes)
	}
}

// P17.4, P17.5: spots over one another are written in their order, the last one over those ahead, and read as they stand.
func TestSpotsOverOthers(t *testing.T) {
	b := []byte("????????")
	h := api.Head{Size: 6, Block: spot(api.Uint32, 0), Template: spot(api.Uint16, 1), Schema: spot(api.Uint8, 2), Version: spot(api.Uint16, 3)}
	c := begin(t, b, 1, api.Big)
	want(t, "PutHead", c.PutHead(h, cursor.Head{Block: 0x11121314, Template: 0x2122, Schema: 0x31, Version: 0x4142}), api.OK)
	want(t, "bytes", string(b), "?\x11\x21\x31\x41\x42\x00?")
	v, err := begin(t, b, 1, api.Big).GetHead(h)
	want(t, "GetHead", v, cursor.Head{Block: 0x11213141, Template: 0x2131, Schema: 0x31, Version: 0x4142})
	want(t, "GetHead", err, api.OK)

	same := api.Head{Size: 1, Block: spot(api.Uint8, 0), Template: spot(api.Uint8, 0), Schema: spot(api.Uint8, 0), Version: spot(api.Uint8, 0)}
	c = begin(t, b, 7, api.Little)
	want(t, "PutHead", c.PutHead(same, cursor.Head{Block: 1, Template: 2, Schema: 3, Version: 4}), api.OK)
	want(t, "bytes", string(b), "?\x11\x21\x31\x41\x42\x00\x04")

	b = []byte("????")
	d := dim(3, spot(api.Uint16, 0), spot(api.Uint16, 1))
	c = begin(t, b, 0, api.Little)
	want(t, "PutDim", c.PutDim(d, 0x1112, 0x2122), api.OK)
	want(t, "bytes", string(b), "\x12\x22\x21?")
	block, count, err := begin(t, b, 0, api.Little).GetDim(d)
	want(t, "GetDim", [2]int{block, count}, [2]int{0x2212, 0x2122})
	want(t, "GetDim", err, api.OK)
}

// P17.4, P17.5: what stands in the bytes is told, though it be more than may be written.
func TestNullNumbers(t *testing.T) {
	b := []byte("\xFF\xFF\xFF\xFF\xFF\xFF\xFF\xFF")
	for _, r := range []struct {
		p api.Prim
		n uint64
	}{{api.Uint8, 255}, {api.Uint16, 65535}, {api.Uint32, 4294967295}} {
		h := api.Head{Size: 4, Block: spot(r.p, 0), Template: spot(r.p, 0), Schema: spot(r.p, 0), Version: spot(r.p, 0)}
		v, err := begin(t, b, 0, api.Little).GetHead(h)
		want(t, "GetHead", v, cursor.Head{Block: r.n, Template: r.n, Schema: r.n, Version: r.n})
		want(t, "GetHead", err, api.OK)
		block, count, err := begin(t, b, 0, api.Big).GetDim(dim(4, spot(r.p, 0), spot(r.p, 0)))
		want(t, "GetDim", [2]int{block, count}, [2]int{int(r.n), int(r.n)})
		want(t, "GetDim", err, api.OK)
	}
}

// P17.6: lengths that stand in the bytes already, up to just the room, one more, and far beyond; the null of the type too.
func TestDataTold(t *testing.T) {
	for _, p := range spotted {
		size := sizeOf(p) + 1
		l := length(size, spot(p, 1))
		for _, o := range orders {
			for room := range 14 {
				for _, n := range []uint64{0, 1, 2, 3, uint64(max(0, room-size-1)), uint64(max(0, room-size)), uint64(max(0, room-size+1)), 127, 128, 254, 255, 256, 32768, 65534, 65535, 1 << 31, 1<<32 - 2, 1<<32 - 1} {
					if !isWord(p, n) {
						continue
					}
					content := filled(3 + room)
					copy(content[min(4, len(content)):], wordBytes(p, o, n))
					w := newTwin(t, content, 2, 1, o)
					got := w.do(call{name: "GetData", token: l})
					if room < size || uint64(room-size) < n {
						want(t, "GetData", got, answer{err: api.ErrShort})
						stands(t, w.c, 2, 3, room)
						continue
					}
					want(t, "GetData", got, answer{text: string(content[3+size : 3+size+int(n)])})
					stands(t, w.c, 2, 3+size+int(n), room-size-int(n))
				}
			}
		}
	}
	// A length of 255 bytes may not be put, but is read where it stands.
	content := append([]byte{255}, filled(255)...)
	w := newTwin(t, content, 0, 0, api.Little)
	want(t, "GetData", w.do(call{name: "GetData", token: length(1, spot(api.Uint8, 0))}).text, string(content[1:]))
	stands(t, w.c, 0, 256, 0)
}
