package enc_test

import (
	"math"
	"slices"
	"testing"

	"stencil/api"
	"stencil/prim"
)

var allPrims = []api.Prim{api.Char, api.Int8, api.Int16, api.Int32, api.Int64, api.Uint8, api.Uint16, api.Uint32, api.Uint64, api.Float, api.Double}

// ends are the least and the greatest word of a type, and, where there are such, those one beyond.
func ends(p api.Prim) (good, wrong []uint64) {
	bits := 8 * prim.Size(p)
	if prim.Signed(p) {
		top := uint64(1) << (bits - 1)
		good, wrong = []uint64{-top, top - 1}, []uint64{-top - 1, top}
	} else {
		good, wrong = []uint64{0, math.MaxUint64 >> (64 - bits)}, []uint64{math.MaxUint64>>(64-bits) + 1, math.MaxUint64}
	}
	if bits == 64 {
		wrong = nil
	}
	return good, wrong
}

// P18.3: the ends of each type and one beyond, null, least and greatest, in both orders.
func TestEnds(t *testing.T) {
	for _, p := range allPrims {
		f := made(t, ". v:"+primNames[p]+" .")
		for _, g := range []api.Form{f, big(f)} {
			w := wrapped(t, g, 30, 1)
			good, wrong := ends(p)
			for _, word := range append(good, prim.Null(p), prim.Min(p), prim.Max(p), 0, 1) {
				w.all(field("v", word))
			}
			for _, word := range wrong {
				w.refuse(field("v", word), api.ErrFit)
			}
		}
	}
}

// P18.3: bytes as they must lie, of some words, in both orders.
func TestBytesOfWords(t *testing.T) {
	for _, x := range []struct {
		of          string
		word        uint64
		little, big string
	}{
		{"char", 65, "A", "A"}, {"char", 255, "\xff", "\xff"}, {"int8", math.MaxUint64, "\xff", "\xff"}, {"uint8", 128, "\x80", "\x80"},
		{"int16", math.MaxUint64 - 1, "\xfe\xff", "\xff\xfe"}, {"uint16", 258, "\x02\x01", "\x01\x02"},
		{"int32", 1<<64 - 1<<31, "\x00\x00\x00\x80", "\x80\x00\x00\x00"}, {"uint32", 0x01020304, "\x04\x03\x02\x01", "\x01\x02\x03\x04"},
		{"int64", 0xFF02030405060708, "\x08\x07\x06\x05\x04\x03\x02\xff", "\xff\x02\x03\x04\x05\x06\x07\x08"},
		{"uint64", 0x0102030405060708, "\x08\x07\x06\x05\x04\x03\x02\x01", "\x01\x02\x03\x04\x05\x06\x07\x08"},
		{"float", 0x7FC00001, "\x01\x00\xc0\x7f", "\x7f\xc0\x00\x01"}, {"double", 0x7FF8000000000002, "\x02\x00\x00\x00\x00\x00\xf8\x7f", "\x7f\xf8\x00\x00\x00\x00\x00\x02"},
	} {
		f := made(t, "a:uint8 v:"+x.of+" z:uint8")
		for _, g := range []api.Form{f, big(f)} {
			must := x.little
			if g.Order == api.Big {
				must = x.big
			}
			e, b := begin(t, g), filled(30)
			want(t, "Wrap", e.Wrap(b, 0), ok)
			want(t, "Field", e.Field("v", x.word), ok)
			// Beside the header, and the byte of a, only v is changed.
			want(t, "the bytes of "+x.of, string(b[8:]), "\xff"+must+string(filled(21-len(must))))
		}
	}
}

// P18.3: too few words, too many, none; and which error comes first: the order, the number, the word.
func TestWords(t *testing.T) {
	for of, n := range map[string]int{
		"uint8": 1, "int16*3": 3, "char*40": 40, "<uint8>": 1, "[uint64]": 1, "(uint8,int16)": 2, "(uint8,.,int16*2,=uint8*9,(double,.,<char>),[uint16])": 6, "(=uint8,.,int8)": 1,
	} {
		w := wrapped(t, made(t, "a:uint8 v:"+of+" z:uint8 g{8 }"), 200, 4)
		for k := range n + 4 {
			words := make([]uint64, k)
			heavy := slices.Repeat([]uint64{1 << 40}, k)
			if k != n {
				w.refuse(field("v", words...), api.ErrWords)
				w.refuse(field("v", heavy...), api.ErrWords)
				w.refuse(field("no", words...), api.ErrOrder)
				continue
			}
			w.all(field("v", words...))
			for i := range words {
				words[i] = uint64(i + 1)
			}
			w.all(field("v", words...))
		}
		w.all(group("g", 0))
		w.refuse(field("v"), api.ErrOrder)
		w.refuse(field("v", make([]uint64, n)...), api.ErrOrder)
	}
}

// P18.3: each word of a field is asked by the type of its own element, ahead of the first one that is written.
func TestOneWordWrong(t *testing.T) {
	types := []api.Prim{api.Uint8, api.Int16, api.Int16, api.Float, api.Char, api.Uint16}
	for _, g := range []api.Form{made(t, "v:(uint8,.,int16*2,=uint8*9,(float,.,<char>),[uint16])"), big(made(t, "v:(uint8,.,int16*2,=uint8*9,(float,.,<char>),[uint16])"))} {
		w := wrapped(t, g, 40, 3)
		var words []uint64
		for i, p := range types {
			good, _ := ends(p)
			words = append(words, good[i%2])
		}
		w.all(field("v", words...))
		for i, p := range types {
			_, wrong := ends(p)
			for _, x := range wrong {
				others := slices.Repeat([]uint64{7}, len(types))
				others[i] = x
				w.refuse(field("v", others...), api.ErrFit)
			}
		}
		w.all(field("v", 1, 2, 3, 4, 5, 6))
	}
}

// P18.3: where the elements of a field's leaves lie: the block's place, the field's Offset, the leaf's, and the elements ahead.
func TestPlaces(t *testing.T) {
	e, b := begin(t, made(t, ". a:uint8 . v:(.,uint8*2,.,(uint16*2,.),=char*3,<uint8>,[uint16]) . +3")), filled(40)
	want(t, "Wrap", e.Wrap(b, 5), ok)
	want(t, "Field", e.Field("v", 1, 2, 0x0403, 0x0605, 7, 0x0908), ok)
	want(t, "the block", string(b[13:30]), "\xff\xff\xff\xff\x01\x02\xff\x03\x04\x05\x06\xff\x07\x08\x09\xff\xff")
	want(t, "Field", e.Field("a", 0), ok)
	want(t, "the block", string(b[13:17]), "\xff\x00\xff\xff")
	want(t, "behind the block", string(b[29:]), string(filled(11)))
	want(t, "End", e.End(), 29)
}

// P18.3: the longest arrays, whose words are as many as a block may have.
func TestLongArrays(t *testing.T) {
	w := wrapped(t, made(t, "a:uint8*65534"), 65600, 3)
	words := make([]uint64, 65534)
	for i := range words {
		words[i] = uint64(i % 256)
	}
	w.all(field("a", words...))
	w.refuse(field("a", words[1:]...), api.ErrWords)
	w.refuse(field("a", append(words, 1)...), api.ErrWords)
	words[65533] = 256
	w.refuse(field("a", words[:65534]...), api.ErrFit)
}

// P18.3: names: of fields that are there, in any order and again and again; of others, of other blocks, of constants, of groups and data.
func TestNames(t *testing.T) {
	f := made(t, "a:uint8 b:uint8 k! n:(=uint8,.) c:uint8 g{8 x:uint8 a:int16 } d$8")
	w := wrapped(t, f, 60, 2)
	refused := func(names ...string) {
		t.Helper()
		for _, name := range append(names, "", "no", "M", "A", "a ", "C", "coding", "k", "n", "g", "d") {
			for _, c := range []api.Call{field(name), field(name, 1), field(name, 1<<63), field(name, 1, 2)} {
				w.refuse(c, api.ErrOrder)
			}
		}
	}
	refused("x")
	for i, name := range []string{"c", "a", "b", "b", "a", "c", "a", "a"} {
		w.all(field(name, uint64(i)))
	}
	refused("x")
	w.all(group("g", 2))
	refused("a", "b", "c", "x")
	w.all(next(), field("a", 0x0102), field("x", 3), field("x", 4), field("a", 5))
	refused("b", "c")
	w.all(next(), field("x", 5))
	refused("b", "c")
	w.all(data("d", ""))
	refused("a", "b", "c", "x")
}

// P18.3: a field of the last entry, or of the message, may still be set when the message is done.
func TestFieldsWhenDone(t *testing.T) {
	w := wrapped(t, made(t, "a:uint8 g{8 x:uint8 h{8 y:uint8 } }"), 40, 0)
	w.all(group("g", 2), next(), group("h", 1), next(), field("y", 1), next(), field("x", 2), group("h", 2), next(), next())
	want(t, "Done", w.e.Done(), true)
	w.all(field("y", 9), field("y", 8))
	w.refuse(field("x", 1), api.ErrOrder)
	w.refuse(field("a", 1), api.ErrOrder)
	w = wrapped(t, made(t, "a:uint8"), 10, 1)
	w.all(field("a", 3), field("a", 4))
	w = wrapped(t, made(t, "a:uint8 g{8 x:uint8 }"), 20, 1)
	w.all(field("a", 3), group("g", 0))
	w.refuse(field("a", 4), api.ErrOrder)
	w.refuse(field("x", 4), api.ErrOrder)
	want(t, "Done", w.e.Done(), true)
}
