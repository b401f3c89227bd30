package look_test

import (
	"fmt"
	"math"
	"slices"
	"testing"

	"stencil/api"
	"stencil/codec"
	"stencil/enc"
	"stencil/look"
	"stencil/prim"
)

var allPrims = []api.Prim{api.Char, api.Int8, api.Int16, api.Int32, api.Int64, api.Uint8, api.Uint16, api.Uint32, api.Uint64, api.Float, api.Double}

// P21.3: words as they must stand in the bytes, in both orders.
func TestBytesOfWords(t *testing.T) {
	for _, x := range []struct {
		of          string
		word        uint64
		little, big string
	}{
		{"char", 65, "A", "A"}, {"char", 255, "\xff", "\xff"}, {"int8", math.MaxUint64, "\xff", "\xff"}, {"uint8", 128, "\x80", "\x80"}, {"int8", 1<<64 - 128, "\x80", "\x80"},
		{"int16", math.MaxUint64 - 1, "\xfe\xff", "\xff\xfe"}, {"uint16", 258, "\x02\x01", "\x01\x02"},
		{"int32", 1<<64 - 1<<31, "\x00\x00\x00\x80", "\x80\x00\x00\x00"}, {"uint32", 0x01020304, "\x04\x03\x02\x01", "\x01\x02\x03\x04"},
		{"int64", 0xFF02030405060708, "\x08\x07\x06\x05\x04\x03\x02\xff", "\xff\x02\x03\x04\x05\x06\x07\x08"},
		{"uint64", 0x0102030405060708, "\x08\x07\x06\x05\x04\x03\x02\x01", "\x01\x02\x03\x04\x05\x06\x07\x08"},
		{"float", 0x7FC00001, "\x01\x00\xc0\x7f", "\x7f\xc0\x00\x01"}, {"double", 0x7FF8000000000002, "\x02\x00\x00\x00\x00\x00\xf8\x7f", "\x7f\xf8\x00\x00\x00\x00\x00\x02"},
	} {
		f := made(t, "a:uint8 v:"+x.of+" z:uint8 g{8 v:"+x.of+" }")
		for bytes, g := range map[string]api.Form{x.little: f, x.big: big(f)} {
			n := len(bytes)
			b := written(t, g, 0, tree("M a=77 v=0 z=78 g{ - v=0 - v=0 }"))
			for said, at := range map[string]int{"v": 9, "g[0].v": 13 + n, "g[1].v": 13 + 2*n} {
				c := slices.Clone(b)
				if e := look.Set(g, c, 0, steps(said), []uint64{x.word}); e != ok || string(c) != string(b[:at])+bytes+string(b[at+n:]) {
					t.Errorf("P21.3: %s: Set of %s to %#x = %v: %s", x.of, said, x.word, e, head(c))
				}
				if got, e := look.Get(g, c, 0, steps(said)); e != ok || !sameTold(got, word(x.word)) {
					t.Errorf("P21.6: %s: Get of %s = %v, %v; want %#x", x.of, said, got, e, x.word)
				}
			}
		}
	}
}

// P21.3: of each type the least and greatest words, null, and those beside them.
func TestEnds(t *testing.T) {
	for _, p := range allPrims {
		f := made(t, ". v:"+primNames[p]+" . w:"+primNames[p]+"*3 x:<uint8> y:[uint32]")
		for _, g := range []api.Form{f, big(f)} {
			b := written(t, g, 1, tree("M v=1 w=1,2,3 x=0 y=0"))
			c := sceneOf(t, g, b, 0)
			width := 8 * prim.Size(p)
			words := []uint64{0, 1, prim.Null(p), prim.Min(p), prim.Max(p), prim.Null(p) + 1, prim.Null(p) - 1, prim.Max(p) + 1, 1<<64 - 1, 1 << 63, 127, 128, 255, 256, 32767, 32768, 65535, 65536, 1<<31 - 1, 1 << 31, 1<<32 - 1, 1 << 32,
				1<<(width-1) - 1, 1 << (width - 1)}
			for _, n := range []int64{-127, -128, -129, -255, -256, -32768, -32769, -1 << 31, -1<<31 - 1} {
				words = append(words, uint64(n))
			}
			for _, w := range words {
				want := ok
				if !prim.Fits(p, w) {
					want = api.ErrFit
				}
				if e := c.set(steps("v"), w); e != want {
					t.Errorf("P21.3: %s: %#x = %v", primNames[p], w, e)
				}
				for k := range 3 {
					many := []uint64{1, 2, 3}
					many[k] = w
					if e := c.set(steps("w"), many...); e != want {
						t.Errorf("P21.3: %s: %#x at %d = %v", primNames[p], w, k, e)
					}
				}
			}
			// An enum and a set take any word of their types, whatever their choices.
			for _, w := range []uint64{0, 1, 2, 200, 255, 256, 1<<32 - 1, 1 << 32} {
				c.set(steps("x"), w)
				c.set(steps("y"), w)
			}
		}
	}
}

// P21.3: how many words a field wants.
func TestHowMany(t *testing.T) {
	f := made(t, "a:uint8 b:int16*5 c:(uint8*2,.,(=char*4,<uint8>),[uint16],double*3) g{8 d:char*2 }")
	b := written(t, f, 2, tree("M a=1 b=1,2,3,4,5 c=1,2,3,4,5,6,7 g{ - d=1,2 }"))
	c := sceneOf(t, f, b, 0)
	for said, want := range map[string]int{"a": 1, "b": 5, "c": 7, "g[0].d": 2} {
		for n := range 12 {
			must := api.ErrWords
			if n == want {
				must = ok
			}
			if e := c.set(steps(said), slices.Repeat([]uint64{3}, n)...); e != must {
				t.Errorf("P21.3: Set of %s with %d words = %v; want %v", said, n, e, must)
			}
			// How many is asked ahead of what they are.
			if e := c.set(steps(said), slices.Repeat([]uint64{math.MaxUint64 - 1<<20}, n)...); n != want && e != api.ErrWords {
				t.Errorf("P21.3: Set of %s with %d wrong words = %v", said, n, e)
			}
		}
		for _, n := range []int{255, 256, 65535, 65536, 1 << 20} {
			if e := c.set(steps(said), make([]uint64, n)...); e != api.ErrWords {
				t.Errorf("P21.3: Set of %s with %d words = %v", said, n, e)
			}
		}
		if e := look.Set(f, slices.Clone(b), 0, steps(said), nil); e != api.ErrWords {
			t.Errorf("P21.3: Set of %s with no words = %v", said, e)
		}
	}
}

// P21.3: a word that doesn't fit, at each place of a field with several leaves: nothing is written, not even what stands ahead of it.
func TestOneThatDoesntFit(t *testing.T) {
	f := made(t, ". v:(.,uint8*2,.,(int16*2,.),=char*3,<uint8>,[uint16],char*2) . +3")
	good := []uint64{1, 2, 3, 4, 5, 6, 7, 8}
	for _, g := range []api.Form{f, big(f), wide(f)} {
		c := sceneOf(t, g, written(t, g, 2, tree("M v=9,9,9,9,9,9,9,9")), 0)
		if e := c.set(steps("v"), good...); e != ok {
			t.Errorf("P21.3: Set of v = %v", e)
		}
		for i := range good {
			for _, w := range []uint64{1 << 16, 1 << 32, 1 << 63, math.MaxInt64, 1<<64 - 1<<20} {
				words := slices.Clone(good)
				words[i] = w
				if e := c.set(steps("v"), words...); e != api.ErrFit {
					t.Errorf("P21.3: Set of v with %#x at %d = %v", w, i, e)
				}
				words[(i+3)%8] = w
				if e := c.set(steps("v"), words...); e != api.ErrFit {
					t.Errorf("P21.3: Set of v with two that don't fit = %v", e)
				}
			}
		}
	}
}

// P21.3: where the elements of a field's leaves lie; the gaps inside the field, and all about it, stay as they were.
func TestPlacesOfWords(t *testing.T) {
	f := made(t, ". a:uint8 . v:(.,uint8*2,.,(uint16*2,.),=char*3,<uint8>,[uint16]) . g{8 . v:(uint8,.,uint16) . } d$8")
	b := slices.Concat([]byte{16, 0, 3, 0, 7, 0, 2, 0}, noise(16, 1), []byte{6, 0, 2}, noise(12, 2), []byte{2, 'd', 'd'})
	for _, order := range []api.Endian{api.Little, api.Big} {
		f.Order = order
		b := slices.Clone(b)
		swap := func(x, y byte) []byte { return []byte{x, y} }
		if order == api.Big {
			for _, i := range []int{0, 2, 4, 6, 24} {
				b[i], b[i+1] = b[i+1], b[i]
			}
			swap = func(x, y byte) []byte { return []byte{y, x} }
		}
		c := slices.Clone(b)
		if e := look.Set(f, c, 0, steps("v"), []uint64{1, 2, 0x0403, 0x0605, 7, 0x0908}); e != ok {
			t.Fatalf("P21.3: Set of v = %v", e)
		}
		want := slices.Concat(b[:12], []byte{1, 2}, b[14:15], swap(3, 4), swap(5, 6), b[19:20], []byte{7}, swap(8, 9), b[23:])
		if !slices.Equal(c, want) {
			t.Errorf("P21.3: Set of v: %s\nnot %s", head(c), head(want))
		}
		if e := look.Set(f, c, 0, steps("g[1].v"), []uint64{21, 0x1716}); e != ok {
			t.Fatalf("P21.3: Set of v in g = %v", e)
		}
		want = slices.Concat(want[:34], []byte{21}, want[35:36], swap(0x16, 0x17), want[38:])
		if !slices.Equal(c, want) {
			t.Errorf("P21.3: Set of v in g: %s\nnot %s", head(c), head(want))
		}
	}
}

// P21.3: what Set writes is what an encoder writes of the field.
func TestAsEncoder(t *testing.T) {
	for _, f := range forms(made(t, "a:uint8 v:(int16,.,char*2,<uint8>) w:double*2 g{8 x:int64 y:[uint16] }")) {
		b := written(t, f, 2, tree("M a=1 v=2,3,4,5 w=6,7 g{ - x=8 y=9 - x=10 y=11 }"))
		for said, words := range map[string][]uint64{"a": {200}, "v": {1<<64 - 5, 65, 66, 3}, "w": {1 << 63, 1<<64 - 1}, "x": {1<<64 - 9}, "y": {0x1234}} {
			want := slices.Clone(b)
			e, _ := enc.New(f)
			e.Wrap(want, 0)
			path := said
			if len(said) == 1 && said > "w" {
				// The first entry is called alone, so that what is behind it stays.
				e.Group("g", 2)
				e.Next()
				path = "g[0]." + said
			}
			if err := e.Field(said, words...); err != ok {
				t.Fatalf("the encoder refuses %s: %v", said, err)
			}
			got := slices.Clone(b)
			if err := look.Set(f, got, 0, steps(path), words); err != ok || !slices.Equal(got, want) {
				t.Errorf("P21.3: Set of %s = %v: %s, not %s", path, err, head(got), head(want))
			}
		}
	}
}

// holdSet asks Set of a field of a message, and then that Get tells the words, and of every other path, and of the size, what it told.
func holdSet(t testing.TB, p *plan, b []byte, at int, said string, words []uint64) {
	t.Helper()
	was := newScene(t, p, b, at)
	_, size, err := codec.Decode(p.f, p.f.Version, b, at)
	c := slices.Clone(b)
	if e := look.Set(p.f, c, at, steps(said), words); e != ok {
		t.Fatalf("P21.3: Set of %s = %v", said, e)
	}
	for other, x := range was.things {
		want := x.told
		if other == said {
			want = api.Told{Words: words}
		}
		if got, e := look.Get(p.f, c, at, steps(other)); e != ok || !sameTold(got, want) {
			t.Fatalf("P21.6: behind Set of %s Get of %s = %v, %v; want %v", said, other, got, e, want)
		}
	}
	if _, n, e := codec.Decode(p.f, p.f.Version, c, at); n != size || e != err {
		t.Fatalf("P21.6: behind Set of %s Decode's size is %d, %v; not %d, %v", said, n, e, size, err)
	}
}

// P21.6: behind a Set that field alone is another.
func TestSetAlone(t *testing.T) {
	for _, f := range []api.Form{grown(t), big(wide(grown(t)))} {
		p := planOf(f)
		for version := 1; version <= 4; version++ {
			b := slices.Concat(noise(2, 1), written(t, f, version, grownTree(version)), noise(2, 2))
			for said, x := range newScene(t, p, b, 2).things {
				if len(x.spots) == 0 {
					continue
				}
				words := make([]uint64, len(x.spots))
				for i, s := range x.spots {
					words[i] = prim.Max(s.Prim) - uint64(i)
				}
				holdSet(t, p, b, 2, said, words)
			}
		}
	}
}

// P21.3, P21.6: many Sets one behind the other, in any order, make the message of the tree with these words.
func TestManySets(t *testing.T) {
	f := made(t, "a:uint8 b:int16*2 g{8 x:uint32 } d$8")
	b := written(t, f, 2, tree("M a=0 b=0,0 g{ - x=0 - x=0 - x=0 } d$dd"))
	set := func(said string, words ...uint64) {
		t.Helper()
		if e := look.Set(f, b, 0, steps(said), words); e != ok {
			t.Errorf("P21.3: Set of %s = %v", said, e)
		}
	}
	for i := 2; i >= 0; i-- {
		set(fmt.Sprintf("g[%d].x", i), uint64(1000+i))
	}
	set("b", 5, 1<<64-6)
	set("a", 9)
	set("a", 8)
	set("g[1].x", 7)
	if want := written(t, f, 2, tree("M a=8 b=5,-6 g{ - x=1000 - x=7 - x=1002 } d$dd")); !slices.Equal(b, want) {
		t.Errorf("P21.3: %s, not %s", head(b), head(want))
	}
}

// P21.3: a Set is OK where bytes behind the field are cut, or spoilt.
func TestSetAheadOfCut(t *testing.T) {
	f := made(t, "a:uint8 g{8 x:uint8 d$8 } n$8")
	b := written(t, f, 2, tree("M a=1 g{ - x=2 d$dd - x=3 d$d } n$n"))
	// a 8, g 9, x 12, d 13, x 16, d 17, n 19.
	for n := range len(b) + 1 {
		c := sceneOf(t, f, b[:n], 0)
		for said, whole := range map[string]int{"a": 9, "g[0].x": 13, "g[1].x": 17} {
			want := ok
			if n < whole {
				want = api.ErrShort
			}
			if e := c.set(steps(said), 99); e != want {
				t.Errorf("P21.3: the first %d bytes: Set of %s = %v; want %v", n, said, e, want)
			}
		}
	}
	c := sceneOf(t, f, with(b, 13, 255), 0)
	for said, want := range map[string]api.Errno{"a": ok, "g[0].x": ok, "g[1].x": api.ErrData, "n": api.ErrPath, "g[0].d": api.ErrPath} {
		if e := c.set(steps(said), 99); e != want {
			t.Errorf("P21.3: with a length spoilt: Set of %s = %v; want %v", said, e, want)
		}
	}
}
