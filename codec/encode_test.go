package codec_test

import (
	"bytes"
	"math"
	"slices"
	"strings"
	"testing"

	"stencil/api"
	"stencil/codec"
	"stencil/value"
)

// P20.1, P20.2: the bytes of a block, of every kind of field, over bytes that were not 0, in both orders.
func TestBlocks(t *testing.T) {
	for _, x := range []struct{ form, tree, little, big string }{
		// Each primitive type.
		{"a:char b:int8 c:uint8", "M a=65 b=-1 c=200", "41ffc8", "41ffc8"},
		{"a:int16 b:uint16", "M a=-2 b=258", "feff0201", "fffe0102"},
		{"a:int32 b:uint32", "M a=-2 b=0x01020304", "feffffff04030201", "fffffffe01020304"},
		{"a:int64", "M a=-2", "feffffffffffffff", "fffffffffffffffe"},
		{"a:uint64", "M a=0x0102030405060708", "0807060504030201", "0102030405060708"},
		{"a:float b:double", "M a=0x3F800001 b=0x7FF8000000000001", "0100803f010000000000f87f", "3f8000017ff8000000000001"},
		// Constants take no bytes.
		{"a:uint8 k! b:uint8", "M a=1 b=2", "0102", "0102"},
		{"k! l:(=uint8,=char*3)", "M", "", ""},
		{"a:(=uint8,uint16,=char*3)", "M a=258", "0201", "0102"},
		// Optional fields that are null, and sets and enums with words that no choice has.
		{"a?:uint16 b?:int8 c?:float", "M a=65535 b=-128 c=0x7FC00000", "ffff800000c07f", "ffff807fc00000"},
		{"a:<uint16> b:[uint32] c:<char>", "M a=1 b=0x80000001 c=0", "01000100008000", "00018000000100"},
		{"a:<int8> b:[uint64]", "M a=-5 b=0", "fb0000000000000000", "fb0000000000000000"},
		// Several elements, several leaves, and what lies between them.
		{"a:uint16*3 b:char*2", "M a=1,2,3 b=120,0", "0100020003007800", "0001000200037800"},
		{"a:(uint8,(int16,.,uint8*2),.,<uint8>,[uint16])", "M a=1,2,3,4,5,6", "010200000304" + "00" + "05" + "0600", "010002000304" + "00" + "05" + "0006"},
		{"a:(.,.,uint8,.)", "M a=7", "00000700", "00000700"},
		{"a:(.,.) b:uint8", "M b=7", "000007", "000007"},
		// Bytes between fields, ahead of the first one, and behind the last one.
		{". a:uint8 . . . b:uint16 . .", "M a=1 b=2", "0001000000020000" + "00", "0001000000000200" + "00"},
		{". .", "M", "0000", "0000"},
		{"", "M", "", ""},
	} {
		for i, want := range []string{x.little, x.big} {
			f := made(t, x.form)
			f.Order = api.Endian(i)
			block := unhex(t, want)
			front := [][]byte{{byte(len(block)), 0, 3, 0, 7, 0, 2, 0}, {0, byte(len(block)), 0, 3, 0, 7, 0, 2}}[i]
			must := slices.Concat([]byte{238, 238, 238}, front, block, []byte{238, 238})
			b := slices.Repeat([]byte{238}, len(must))
			if n, e := codec.Encode(f, tree(x.tree), b, 3); n != len(must)-5 || e != ok || !bytes.Equal(b, must) {
				t.Errorf("P20.1: %s: Encode of %s = %d, %v: %s; want %s", x.form, x.tree, n, e, head(b), head(must))
			}
			if s, e := codec.Bytes(f, tree(x.tree)); s != string(must[3:len(must)-2]) || e != ok {
				t.Errorf("P20.2: %s: Bytes of %s = %s, %v", x.form, x.tree, head(s), e)
			}
			wantTree(t, x.form, f, 2, must, 3, x.tree, len(must)-5)
		}
	}
}

// P20.1, P20.2: groups with and without entries, in one another, data in them and behind them, at the first version and at the last.
func TestWholeMessages(t *testing.T) {
	f := grown(t)
	for version, want := range map[int]string{
		1: "0200030007000100" + "0901" +
			"020002" + "2c01" + "05000200" + "0102000300" + "026e6e" + "0405000600" + "00" + "01006d" +
			"2d01" + "05000000" + "0000",
		4: "0f00030007000400" + "ff03" + "ffff" + "000000800000ff" + "00" + "410043" +
			"040001" + "01000700" + "05000100" + "0908000700" + "016e" + "0000" +
			"080001" + "0500000000000000" + "00" + "040000006c6f6e67",
	} {
		if s, e := codec.Bytes(then(t, f, version), grownTree(version)); s != string(unhex(t, want)) || e != ok {
			t.Errorf("P20.2: Bytes at %d = %s, %v; want %s", version, head(s), e, head(unhex(t, want)))
		}
	}
	// In the other order of bytes.
	s, e := codec.Bytes(big(made(t, "a:uint16 g{16 x:uint16 } d$32")), tree("M a=258 g{ - x=3 - x=4 } d$hi"))
	if want := string(unhex(t, "0002000300070002"+"0102"+"00020002"+"00030004"+"000000026869")); s != want || e != ok {
		t.Errorf("P20.2: Bytes = %s, %v; want %s", head(s), e, head(want))
	}
	// A header and a dimension with bytes that none of their numbers has: these are 0 whatever was there.
	g := made(t, "a:uint8 g{8 x:uint8 }")
	g.Head = api.Head{Size: 12, Version: spot(api.Uint8, 1), Template: spot(api.Uint16, 3), Schema: spot(api.Uint8, 6), Block: spot(api.Uint32, 7)}
	g = changed(g, placeOf(g, "g"), func(x *api.Token) { x.Size, x.A, x.B = 6, spot(api.Uint16, 3), spot(api.Uint8, 1) })
	must := "0002" + "00" + "0300" + "00" + "07" + "01000000" + "00" + "09" + "0002" + "00" + "0100" + "00" + "0405"
	b := noise(40, 3)
	if n, e := codec.Encode(g, tree("M a=9 g{ - x=4 - x=5 }"), b, 5); n != len(must)/2 || e != ok || !bytes.Equal(b[5:5+n], unhex(t, must)) {
		t.Errorf("P20.1: Encode = %d, %v: %s", n, e, head(b))
	}
	for version := 1; version <= 4; version++ {
		for at := range 5 {
			for _, more := range []int{0, 1, 50} {
				g := then(t, f, version)
				size, _ := value.Size(g, grownTree(version))
				holdEncode(t, g, grownTree(version), at+size+more, at)
				holdEncode(t, big(wide(g)), grownTree(version), at+size+100, at)
			}
		}
	}
}

// P20.1: buffers that are nil, empty, too short by one and by more, just long enough, and longer; places in them, at their end, behind it, ahead of their beginning, and the greatest and least ints.
func TestPlaces(t *testing.T) {
	f := made(t, chapter)
	m := tree(newerTree)
	size, _ := value.Size(f, m)
	for _, n := range []int{0, 1, size - 1, size, size + 1, size + 7, 2 * size} {
		got := map[api.Errno]int{}
		for _, at := range []int{math.MinInt, math.MinInt + 1, -size, -2, -1, 0, 1, 2, 7, n - size - 1, n - size, n - size + 1, n - 1, n, n + 1, n + 2, n + size, math.MaxInt - size, math.MaxInt - 1, math.MaxInt} {
			got[holdEncode(t, f, m, n, at)]++
		}
		if got[api.ErrBuffer] < 8 || got[api.ErrShort] == 0 || (got[ok] > 0) != (n >= size) {
			t.Errorf("P20.1: %d bytes: %v", n, got)
		}
	}
	for _, b := range [][]byte{nil, {}} {
		for at, want := range map[int]api.Errno{-1: api.ErrBuffer, 0: api.ErrShort, 1: api.ErrBuffer, math.MaxInt: api.ErrBuffer, math.MinInt: api.ErrBuffer} {
			if n, e := codec.Encode(f, m, b, at); n != 0 || e != want {
				t.Errorf("P20.1: Encode into nothing at %d = %d, %v; want %v", at, n, e, want)
			}
		}
	}
}

// P20.1: the room behind a buffer's length is none of it.
func TestRoomBehindBuffer(t *testing.T) {
	f := made(t, chapter)
	m := tree(newerTree)
	for n := range 40 {
		for at := range n + 2 {
			whole := noise(60, n)
			got, e := codec.Encode(f, m, whole[:n], at)
			want, size := ok, len(newer)
			switch {
			case at > n:
				want, size = api.ErrBuffer, 0
			case n-at < size:
				want, size = api.ErrShort, 0
			}
			must := noise(60, n)
			if want == ok {
				copy(must[at:], newer)
			}
			if got != size || e != want || !bytes.Equal(whole, must) {
				t.Fatalf("P20.1: Encode into %d bytes, with room behind, at %d = %d, %v; want %d, %v", n, at, got, e, size, want)
			}
		}
	}
}

// P20.1, P20.2: each error of value.Check.
func TestTreesRefused(t *testing.T) {
	f := made(t, chapter)
	long := "M a=9 b=-2 c=7 g{ } d$" + strings.Repeat("x", 255) + " n$"
	many := "M a=9 b=-2 c=7 g{" + strings.Repeat(" - x=1", 255) + " } d$ n$"
	for _, x := range []struct {
		said string
		want api.Errno
	}{
		{"M", api.ErrTree},
		{"N a=9 b=-2 c=7 g{ } d$ n$", api.ErrTree},
		{"M a=9 b=-2 c=7 g{ } d$", api.ErrTree},
		{"M a=9 b=-2 g{ } d$ n$", api.ErrTree},
		{"M b=-2 a=9 c=7 g{ } d$ n$", api.ErrTree},
		{"M a=9 b=-2 c=7 g{ - } d$ n$", api.ErrTree},
		{"M a=9 b=-2 c=7 g{ - x=1 x=1 } d$ n$", api.ErrTree},
		{"M a=9 b=-2 c=7 g{ } d$ n$ n$", api.ErrTree},
		{"M a=9 b=-2 c=7 d$ g{ } n$", api.ErrTree},
		{"M a=9,9 b=-2 c=7 g{ } d$ n$", api.ErrWords},
		{"M a=256 b=-2 c=7 g{ } d$ n$", api.ErrFit},
		{"M a=-1 b=-2 c=7 g{ } d$ n$", api.ErrFit},
		{"M a=9 b=32768 c=7 g{ } d$ n$", api.ErrFit},
		{"M a=9 b=-32769 c=7 g{ } d$ n$", api.ErrFit},
		{"M a=9 b=-2 c=7 g{ - x=1 - x=256 } d$ n$", api.ErrFit},
		{long, api.ErrData},
		{many, api.ErrEntries},
	} {
		refuseEncode(t, x.said, f, tree(x.said), x.want)
	}
	refuseEncode(t, "nil", f, nil, api.ErrTree)
	refuseEncode(t, "no nodes", f, []api.Val{}, api.ErrTree)
	for i, v := range tree(newerTree) {
		for what, do := range map[string]func(v *api.Val){
			"the least Depth":    func(v *api.Val) { v.Depth = math.MinInt },
			"a greater Depth":    func(v *api.Val) { v.Depth++ },
			"another Name":       func(v *api.Val) { v.Name += "x" },
			"a Kind that isn't":  func(v *api.Val) { v.Kind = 5 },
			"a Kind below 0":     func(v *api.Val) { v.Kind = -1 },
			"Words and no field": func(v *api.Val) { v.Words = append(v.Words, 1) },
			"Text and no data":   func(v *api.Val) { v.Text += "x" },
		} {
			want := api.ErrTree
			switch {
			case what[0] == 'W' && v.Kind == api.ValField:
				want = api.ErrWords
			case what[0] == 'T' && v.Kind == api.ValData:
				continue
			}
			m := tree(newerTree)
			do(&m[i])
			refuseEncode(t, what, f, m, want)
		}
	}
}

// P20.1: where several errors hold the first one is told: of the form, of the tree's first node that is refused, of the place, of the room.
func TestFirstErrorOfEncode(t *testing.T) {
	f := made(t, "a:uint8 b:uint8 g{8 x:uint8 } d$8")
	none := f
	none.Order = 2
	long := strings.Repeat("x", 255)
	for _, x := range []struct {
		f    api.Form
		said string
		n    int
		at   int
		want api.Errno
	}{
		{none, "M a=1,2", 0, -1, api.ErrTokens},
		{none, "M a=1 b=2 g{ } d$", 0, 1, api.ErrTokens},
		{none, "M a=1 b=2 g{ } d$", 0, 0, api.ErrTokens},
		{f, "M a=1,2 b=256 g{ } d$" + long + " e$", 0, -1, api.ErrWords},
		{f, "M a=1 b=256 g{ } d$" + long + " e$", 0, -1, api.ErrFit},
		{f, "M a=1 b=1000,1000 g{ } d$", 0, -1, api.ErrWords},
		{f, "M a=1 b=2 g{ - x=256 - } d$" + long, 0, -1, api.ErrFit},
		{f, "M a=1 b=2 g{ - x=1 - } d$" + long, 0, -1, api.ErrTree},
		{f, "M a=1 b=2 g{ } d$" + long + " e$", 0, 1, api.ErrData},
		{f, "M a=1 b=2 g{ } d$ e$" + long, 0, 1, api.ErrTree},
		{f, "M a=1 b=2 g{" + strings.Repeat(" - x=1", 255) + " } d$" + long, 0, 1, api.ErrEntries},
		{f, "M a=1 b=2 g{ } d$", 0, 1, api.ErrBuffer},
		{f, "M a=1 b=2 g{ } d$", 13, 14, api.ErrBuffer},
		{f, "M a=1 b=2 g{ } d$", 13, -1, api.ErrBuffer},
		{f, "M a=1 b=2 g{ } d$", 0, 0, api.ErrShort},
		{f, "M a=1 b=2 g{ } d$", 13, 0, api.ErrShort},
		{f, "M a=1 b=2 g{ } d$", 14, 1, api.ErrShort},
		{f, "M a=1 b=2 g{ } d$", 14, 14, api.ErrShort},
		{f, "M a=1 b=2 g{ } d$", 14, 0, ok},
	} {
		b := noise(x.n, 2)
		n, e := codec.Encode(x.f, tree(x.said), b, x.at)
		if e != x.want || (e == ok) != (n == 14) || e != ok && n != 0 {
			t.Errorf("P20.1: Encode of %.60s into %d bytes at %d = %d, %v; want %v", x.said, x.n, x.at, n, e, x.want)
		}
		if e != ok && !bytes.Equal(b, noise(x.n, 2)) {
			t.Errorf("P20.1: Encode of %.60s into %d bytes at %d (%v) has written", x.said, x.n, x.at, e)
		}
	}
}

// P20.1: a message may be written over another one, and over itself; nothing of what was there is left in it.
func TestWrittenOver(t *testing.T) {
	f := grown(t)
	b := noise(200, 1)
	first, _ := codec.Encode(f, grownTree(4), b, 20)
	for _, fill := range []byte{0, 1, 127, 128, 255} {
		for i := range b {
			b[i] = fill
		}
		for range 2 {
			n, e := codec.Encode(f, grownTree(4), b, 20)
			if n != first || e != ok || !bytes.Equal(b[20:20+n], written(t, f, 4, grownTree(4))) {
				t.Fatalf("P20.1: Encode over %d = %d, %v: %s", fill, n, e, head(b))
			}
			if i := slices.IndexFunc(slices.Concat(b[:20], b[20+n:]), func(x byte) bool { return x != fill }); i >= 0 {
				t.Fatalf("P20.1: Encode over %d has written at %d, outside of the message", fill, i)
			}
		}
	}
}
