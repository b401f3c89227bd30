package dec_test

import (
	"math"
	"slices"
	"testing"

	"stencil/api"
	"stencil/prim"
)

// P19.3: words as they must come out of bytes, in both orders.
func TestWordsOfBytes(t *testing.T) {
	for _, x := range []struct {
		of          string
		word        uint64
		little, big string
	}{
		{"char", 65, "A", "A"}, {"char", 255, "\xff", "\xff"}, {"int8", math.MaxUint64, "\xff", "\xff"}, {"uint8", 128, "\x80", "\x80"}, {"int8", 1<<64 - 128, "\x80", "\x80"},
		{"int16", math.MaxUint64 - 1, "\xfe\xff", "\xff\xfe"}, {"uint16", 258, "\x02\x01", "\x01\x02"},
		{"int32", 1<<64 - 1<<31, "\x00\x00\x00\x80", "\x80\x00\x00\x00"}, {"uint32", 0x01020304, "\x04\x03\x02\x01", "\x01\x02\x03\x04"},
		{"int64", 0xFF02030405060708, "\x08\x07\x06\x05\x04\x03\x02\xff", "\xff\x02\x03\x04\x05\x06\x07\x08"},
		{"uint64", 0x0102030405060708, "\x08\x07\x06\x05\x04\x03\x02\x01", "\x01\x02\x03\x04\x05\x06\x07\x08"},
		{"float", 0x7FC00001, "\x01\x00\xc0\x7f", "\x7f\xc0\x00\x01"}, {"double", 0x7FF8000000000002, "\x02\x00\x00\x00\x00\x00\xf8\x7f", "\x7f\xf8\x00\x00\x00\x00\x00\x02"},
	} {
		f := made(t, "a:uint8 v:"+x.of+" z:uint8")
		for _, g := range []api.Form{f, big(f)} {
			bytes := x.little
			if g.Order == api.Big {
				bytes = x.big
			}
			n := len(bytes) + 2
			w := wrapped(t, g, 2, 3, append(headed(g, uint64(n), 3, 7, 0, 0), "\x01"+bytes+"\x02"...))
			w.tells("v", x.word)
			w.tells("z", 2)
			w.tells("a", 1)
			w.tells("v", x.word)
		}
	}
}

// P19.3: null, least and greatest words of each type are told as they stand.
func TestEnds(t *testing.T) {
	for _, p := range allPrims {
		f := made(t, ". v:"+primNames[p]+" .")
		for _, g := range []api.Form{f, big(f)} {
			for _, word := range []uint64{prim.Null(p), prim.Min(p), prim.Max(p), 0, 1} {
				wrapped(t, g, 2, 1, written(t, g, 1, set("v", word))).tells("v", word)
			}
		}
	}
}

// P19.3: where the elements of a field's leaves lie: the block's place, the field's Offset, the leaf's, and the elements ahead; what lies beside them isn't told, nor are constants.
func TestPlaces(t *testing.T) {
	f := made(t, ". a:uint8 . v:(.,uint8*2,.,(uint16*2,.),=char*3,<uint8>,[uint16]) . +3")
	b := append(headed(f, 16, 3, 7, 2, 0), 200, 50, 201, 202, 1, 2, 203, 3, 4, 5, 6, 204, 7, 8, 9, 205)
	w := wrapped(t, f, 2, 5, b)
	w.tells("v", 1, 2, 0x0403, 0x0605, 7, 0x0908)
	w.tells("a", 50)
	want(t, "End", w.d.End(), 5+24)
	w = wrapped(t, big(f), 0, 0, append(headed(big(f), 16, 3, 7, 2, 0), b[8:]...))
	w.tells("v", 1, 2, 0x0304, 0x0506, 7, 0x0809)
	// In an entry it is the entry's block.
	f = made(t, "a:uint16 g{8 . a:uint8*2 }")
	w = wrapped(t, f, 2, 1, append(headed(f, 2, 3, 7, 0, 0), 1, 2, 3, 0, 2, 10, 11, 12, 20, 21, 22))
	w.tells("a", 0x0201)
	w.counts("g", 2)
	w.all(next())
	w.tells("a", 11, 12)
	w.all(next())
	w.tells("a", 21, 22)
}

// P19.3: what the bytes don't have is null: for each element of each leaf its own null, of a set 0; whatever stands in the block there.
func TestNulls(t *testing.T) {
	f := made(t, "a:uint8 b@1:uint8 c@1:int32~-5 d@1:char*3 e@1:<uint8~9> f@1:[uint16~9] g@1:(uint8*2~7,.,=int8,(int16,<char>),[uint8],double) h@2:<int8> i@2:float*2")
	min16 := uint64(1<<64 - 1<<15)
	nulls := map[string][]uint64{
		"b": {255}, "c": {math.MaxUint64 - 4}, "d": {0, 0, 0}, "e": {9}, "f": {0}, "g": {7, 7, min16, 0, 0, prim.Null(api.Double)},
		"h": {1<<64 - 128}, "i": {0x7FC00000, 0x7FC00000},
	}
	for _, g := range []api.Form{f, big(f)} {
		for _, length := range []int{1, 2, 60} {
			w := wrapped(t, g, 2, 3, headed(g, uint64(length), 3, 7, 0, length))
			w.tells("a", 77)
			for name, words := range nulls {
				w.tells(name, words...)
				w.tells(name, words...)
			}
		}
		// At version 1 h and i are null still, and the others stand in the block.
		w := wrapped(t, g, 2, 3, headed(g, 40, 3, 7, 1, 40))
		w.tells("b", 77)
		w.tells("d", 77, 77, 77)
		w.tells("e", 77)
		w.tells("h", nulls["h"]...)
		w.tells("i", nulls["i"]...)
		want(t, "Acting", w.d.Acting(), 1)
		// A reader of 1 doesn't know h, one of 0 only a.
		for reader, names := range [][]string{{"b", "c", "d", "e", "f", "g", "h", "i"}, {"h", "i"}, {}} {
			w := wrapped(t, g, reader, 3, headed(g, 60, 3, 7, 2, 60))
			for _, name := range names {
				w.refuse(field(name), api.ErrOrder)
			}
			w.tells("a", 77)
		}
	}
	// In a group's entries likewise.
	f = made(t, "g{8 x:uint8 y@1:uint8~4 z@2:[uint8] }")
	for version, must := range [][]uint64{{4, 0}, {13, 0}, {13, 14}} {
		b := append(headed(f, 0, 3, 7, uint64(version), 0), 4, 0, 2, 1, 2, 3, 4, 12, 13, 14, 15)
		w := wrapped(t, f, 2, 0, b)
		w.counts("g", 2)
		w.all(next(), next())
		w.tells("x", 12)
		w.tells("y", must[0])
		w.tells("z", must[1])
	}
}

// P19.3: optional and required fields alike are told as they stand, null or not.
func TestPresence(t *testing.T) {
	f := made(t, "a:uint8 b?:uint8~3 k! n:(=uint8,.)")
	w := wrapped(t, f, 2, 0, append(headed(f, 3, 3, 7, 2, 0), 255, 3, 9))
	w.tells("a", 255)
	w.tells("b", 3)
	w.refuse(field("k"), api.ErrOrder)
	w.refuse(field("n"), api.ErrOrder)
}

// P19.3: the longest arrays, whose words are as many as a block may have.
func TestLongArrays(t *testing.T) {
	f := made(t, "a:uint8*40000 b@1:uint8*25534~3")
	words := make([]uint64, 65534)
	for i := range words {
		words[i] = uint64(i % 256)
	}
	w := wrapped(t, f, 2, 3, written(t, f, 2, set("a", words[:40000]...), set("b", words[40000:]...)))
	w.tells("a", words[:40000]...)
	w.tells("b", words[40000:]...)
	w = wrapped(t, f, 2, 3, written(t, f, 0, set("a", words[:40000]...)))
	w.tells("b", slices.Repeat([]uint64{3}, 25534)...)
}

// P19.3: names: of fields that are there, in any order and again and again; of others, of other blocks, of constants, of groups and data.
func TestNames(t *testing.T) {
	f := made(t, "a:uint8 b:uint8 k! n:(=uint8,.) c:uint8 g{8 x:uint8 a:int16 } d$8")
	b := written(t, f, 2, set("a", 1), set("b", 2), set("c", 3), count("g", 2), next(), set("x", 4), set("a", 5), next(), set("x", 6), set("a", 7), text("d", "d"))
	w := wrapped(t, f, 1, 2, b)
	refused := func(names ...string) {
		t.Helper()
		for _, name := range append(names, "", "no", "M", "A", "a ", "C", "coding", "k", "n", "g", "d") {
			w.refuse(field(name), api.ErrOrder)
		}
	}
	refused("x")
	for _, name := range []string{"c", "a", "b", "b", "a", "c", "a", "a"} {
		w.tells(name, map[string]uint64{"a": 1, "b": 2, "c": 3}[name])
	}
	refused("x")
	w.counts("g", 2)
	refused("a", "b", "c", "x")
	w.all(next())
	w.tells("a", 5)
	w.tells("x", 4)
	w.tells("a", 5)
	refused("b", "c")
	w.all(next())
	w.tells("x", 6)
	refused("b", "c")
	w.says("d", "d")
	refused("a", "b", "c", "x")
}

// P19.3: a field of the last entry, or of the message, may still be read when the message is done; behind Skip none.
func TestFieldsWhenDone(t *testing.T) {
	f := made(t, "a:uint8 g{8 x:uint8 h{8 y:uint8 } }")
	b := written(t, f, 2, count("g", 2), next(), count("h", 1), next(), set("y", 1), next(), set("x", 2), count("h", 2), next(), next(), set("y", 9))
	w := wrapped(t, f, 2, 0, b)
	w.all(group("g"), next(), group("h"), next())
	w.tells("y", 1)
	w.all(next())
	w.tells("x", 2)
	w.all(group("h"), next(), next())
	want(t, "Done", w.d.Done(), true)
	w.tells("y", 9)
	w.refuse(field("x"), api.ErrOrder)
	w.refuse(field("a"), api.ErrOrder)
	w.must(ok, w.skip(), "Skip")
	w.refuse(field("y"), api.ErrOrder)

	f = made(t, "a:uint8 g{8 x:uint8 }")
	w = wrapped(t, f, 2, 1, written(t, f, 2, set("a", 3), count("g", 0)))
	w.tells("a", 3)
	w.counts("g", 0)
	w.refuse(field("a"), api.ErrOrder)
	w.refuse(field("x"), api.ErrOrder)
	want(t, "Done", w.d.Done(), true)
}
