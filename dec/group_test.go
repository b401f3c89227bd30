package dec_test

import (
	"slices"
	"strings"
	"testing"

	"stencil/api"
	"stencil/prim"
)

// dim are a dimension's bytes with these numbers, by its token.
func dim(f api.Form, name string, length, n uint64) []byte {
	t := f.Tokens[placeOf(f, name)]
	b := slices.Repeat([]byte{99}, t.Size)
	prim.Put(b, t.A.Offset, t.A.Prim, f.Order, length)
	prim.Put(b, t.B.Offset, t.B.Prim, f.Order, n)
	return b
}

// P19.3: counts of 0, 1, the greatest one that is taken, those above it and the null's, of each type that counts, in both orders.
func TestCounts(t *testing.T) {
	for bits, most := range map[string]uint64{"8": 254, "16": 65534, "32": api.MaxEntries} {
		f := made(t, "g{"+bits+" } d$8")
		for _, g := range []api.Form{f, big(f), wide(f)} {
			for _, n := range []uint64{0, 1, 2, 253, 254, 255, 256, 65533, 65534, 65535, 65536, 65537, 65538, 1 << 24, 1<<32 - 3, 1<<32 - 2, 1<<32 - 1} {
				null := prim.Null(g.Tokens[placeOf(g, "g")].B.Prim)
				if n > null {
					continue
				}
				w := wrapped(t, g, 2, 3, append(append(headed(g, 0, 3, 7, 0, 0), dim(g, "g", 0, n)...), 0))
				switch {
				case n == null:
					w.refuse(group("g"), api.ErrCount)
					w.must(api.ErrCount, w.skip(), "Skip")
				case n > most:
					w.refuse(group("g"), api.ErrEntries)
					w.must(api.ErrEntries, w.skip(), "Skip")
				case n == 0:
					w.counts("g", 0)
					w.refuse(next(), api.ErrOrder)
					w.says("d", "")
				default:
					w.counts("g", int(n))
					w.refuse(data("d"), api.ErrOrder)
					w.all(next())
					w.must(ok, w.skip(), "Skip")
				}
			}
		}
	}
}

// P19.3: names of groups that may not come.
func TestGroupNames(t *testing.T) {
	f := made(t, "a:uint8 g{8 x:uint8 i{8 } } h{8 } j@2{8 } d@2$8")
	w := wrapped(t, f, 1, 1, written(t, f, 2, count("g", 1), next(), count("i", 1), next(), count("h", 0), count("j", 1), next(), text("d", "")))
	refused := func(names ...string) {
		t.Helper()
		for _, name := range append(names, "", "a", "x", "d", "j", "M", "no") {
			w.refuse(group(name), api.ErrOrder)
		}
	}
	refused("h", "i")
	w.counts("g", 1)
	refused("g", "h", "i")
	w.all(next())
	refused("g", "h")
	w.counts("i", 1)
	refused("g", "h", "i")
	w.all(next())
	refused("g", "i")
	w.counts("h", 0)
	refused("g", "h", "i")
	want(t, "Done", w.d.Done(), true)
}

// P19.3: dimensions of all kinds, in both orders: their numbers in any order, bytes between them, which aren't looked at.
func TestDimensions(t *testing.T) {
	for _, x := range []struct {
		size int
		a, b api.Spot
	}{
		{2, spot(api.Uint8, 1), spot(api.Uint8, 0)}, {9, spot(api.Uint16, 6), spot(api.Uint32, 1)}, {8, spot(api.Uint32, 0), spot(api.Uint32, 4)}, {7, spot(api.Uint8, 3), spot(api.Uint16, 4)}, {65535, spot(api.Uint16, 65533), spot(api.Uint8, 700)},
	} {
		f := made(t, "g{8 x:uint8 . +5 h{8 } } d$8")
		f = changed(f, placeOf(f, "g"), func(t *api.Token) { t.Size, t.A, t.B = x.size, x.a, x.b })
		for _, g := range []api.Form{f, big(f)} {
			b := append(headed(g, 0, 3, 7, 1, 0), dim(g, "g", 4, 2)...)
			b = append(b, slices.Concat([]byte{5, 6, 7, 8}, dim(g, "h", 3, 1), []byte{1, 2, 3}, []byte{9, 10, 11, 12}, dim(g, "h", 0, 0), []byte("\x03end"))...)
			w := wrapped(t, g, 2, 2, b)
			w.counts("g", 2)
			w.all(next())
			w.tells("x", 5)
			w.counts("h", 1)
			w.all(next(), next())
			w.tells("x", 9)
			w.counts("h", 0)
			w.says("d", "end")
			want(t, "End", w.d.End(), 2+len(b))
		}
	}
}

// P19.3: block lengths of dimensions: what the block reaches at the acting version, one less, more than the form's; of a group without entries it isn't asked.
func TestEntryBlocks(t *testing.T) {
	f := wide(made(t, "g{8 x:uint16 y@1:uint8 . z@2:uint8 k@2! +3 } d$8"))
	for _, g := range []api.Form{f, big(f)} {
		for version, reach := range []int{2, 3, 5} {
			for _, length := range []int{0, 1, 2, 3, 4, 5, 6, 7, 8, 9, 30, 255, 256, 65535} {
				b := slices.Concat(headed(g, 0, 3, 7, uint64(version), 0), dim(g, "g", uint64(length), 2), slices.Repeat([]byte{7}, 2*length), []byte{1, 'd'})
				for reader := range 3 {
					w := wrapped(t, g, reader, 1, b)
					if length < reach {
						w.refuse(group("g"), api.ErrBlock)
						w.must(api.ErrBlock, w.skip(), "Skip")
						continue
					}
					w.counts("g", 2)
					at := w.d.End()
					w.all(next())
					want(t, "End", w.d.End(), at+length)
					w.all(field("x"), next())
					want(t, "End", w.d.End(), at+2*length)
					w.tells("x", 0x0707)
					w.says("d", "d")
				}
			}
			for _, length := range []uint64{0, 1, 9, 1 << 20, 1<<32 - 1} {
				w := wrapped(t, g, 2, 1, slices.Concat(headed(g, 0, 3, 7, uint64(version), 0), dim(g, "g", length, 0), []byte{1, 'd'}))
				w.counts("g", 0)
				w.refuse(next(), api.ErrOrder)
				w.says("d", "d")
			}
		}
	}
}

// P19.3: entries: none ahead of the group, one for each that was told, none more.
func TestEntries(t *testing.T) {
	f := made(t, "a:uint8 g{8 x:uint16 . e$8 } d$8")
	for n := range 5 {
		calls := []api.Call{set("a", 1), count("g", n)}
		for i := range n {
			calls = append(calls, next(), set("x", uint64(i)+0x1020), text("e", strings.Repeat("e", i)))
		}
		w := wrapped(t, f, 0, 2, written(t, f, 1, append(calls, text("d", ""))...))
		w.refuse(next(), api.ErrOrder)
		w.all(field("a"))
		w.refuse(next(), api.ErrOrder)
		w.counts("g", n)
		for i := range n {
			at := w.d.End()
			w.all(next())
			want(t, "End", w.d.End(), at+3)
			w.refuse(next(), api.ErrOrder)
			w.tells("x", uint64(i)+0x1020)
			w.refuse(next(), api.ErrOrder)
			w.says("e", strings.Repeat("e", i))
		}
		w.refuse(next(), api.ErrOrder)
		w.says("d", "")
		w.refuse(next(), api.ErrOrder)
		want(t, "Done", w.d.Done(), true)
	}
}

// P19.3: a dimension, an entry's block, a length, a text for which there is just room, and one byte less: what was refused changes nothing.
func TestJustRoom(t *testing.T) {
	f := made(t, "a:uint8 g{16 x:uint32 . h{8 } e$16 } d$8")
	calls := []api.Call{count("g", 2), next(), count("h", 0), text("e", "abc"), next(), count("h", 1), next(), text("e", ""), text("d", "xyz")}
	sizes := []int{4, 5, 3, 5, 5, 3, 0, 2, 4}
	b := written(t, f, 1, calls...)
	for _, at := range []int{0, 7} {
		end := 9
		for n, c := range plain(calls) {
			for less := range sizes[n] + 1 {
				w := wrapped(t, f, 2, at, b[:end+sizes[n]-less])
				w.all(plain(calls[:n])...)
				if less == 0 {
					w.all(c)
					want(t, "End", w.d.End(), at+end+sizes[n])
					continue
				}
				w.must(api.ErrShort, w.skip(), "Skip")
				w.refuse(c, api.ErrShort)
				w.refuse(c, api.ErrShort)
				want(t, "End", w.d.End(), at+end)
				want(t, "Done", w.d.Done(), false)
			}
			end += sizes[n]
		}
		want(t, "the whole", end, len(b))
	}
}

// P19.3: a refused dimension, entry or data leaves the message where it was: the fields that might be read still may.
func TestShortAndOn(t *testing.T) {
	w := wrapped(t, made(t, chapter), 2, 0, []byte(sample[:17]))
	w.counts("g", 1)
	w.all(next())
	w.refuse(data("d"), api.ErrShort)
	w.tells("x", 4)
	w.must(api.ErrShort, w.skip(), "Skip")
	w.tells("x", 4)
	// No room for the dimension.
	w = wrapped(t, made(t, chapter), 2, 0, []byte(sample[:13]))
	w.refuse(group("g"), api.ErrShort)
	w.tells("a", 9)
	w.tells("c", 65535)
	// No room for an entry: those of the one ahead may still be read, which a taken call would forbid.
	f := made(t, "g{8 x:uint64 h{8 y:uint8 } }")
	b := written(t, f, 0, count("g", 2), next(), set("x", 3), count("h", 2), next(), set("y", 4), next(), set("y", 5), next(), count("h", 0))
	w = wrapped(t, f, 2, 0, b[:len(b)-4])
	w.counts("g", 2)
	w.all(next())
	w.counts("h", 2)
	w.all(next(), next())
	w.refuse(next(), api.ErrShort)
	w.tells("y", 5)
	want(t, "Left", slices.Equal(w.d.Left(), []int{1, 0}), true)
	w.must(api.ErrShort, w.skip(), "Skip")
	w.tells("y", 5)
}

// P19.3: counts that are together just MaxEntries, and one more, in groups side by side and inside of one another; also where Skip goes through them, and those that the reader doesn't know.
func TestManyEntries(t *testing.T) {
	f := made(t, "g{32 h{16 x:uint8 } } i{32 } j@2{32 }")
	for _, more := range []uint64{0, 1} {
		b := slices.Concat(headed(f, 0, 3, 7, 2, 0), dim(f, "g", 0, 2), dim(f, "h", 1, 65000), make([]byte, 65000), dim(f, "h", 0, 0), dim(f, "i", 0, 530), dim(f, "j", 0, 4+more))
		must := []api.Errno{ok, api.ErrEntries}[more]
		for reader := range 3 {
			w := wrapped(t, f, reader, 0, b)
			w.must(must, w.skip(), "Skip from the beginning")
			w = wrapped(t, f, reader, 0, b)
			w.counts("g", 2)
			w.all(next())
			w.counts("h", 65000)
			for range 65000 {
				if w.d.Next() != ok {
					t.Fatal("Next")
				}
			}
			// The second one is brought there at once.
			w.m.known, w.m.there = w.m.known[1:], w.m.there[1:]
			w.m.end += 65000
			w.all(next())
			w.counts("h", 0)
			w.counts("i", 530)
			for range 530 {
				w.all(next())
			}
			if reader == 2 {
				_, err := w.do(group("j"))
				w.must(must, err, "Group j")
			}
			w.must(must, w.skip(), "Skip from the end")
		}
	}
}

// P19.3: groups that weigh, with what is ahead of them, just as much as a message may, and one entry more; each entry the greater one of its acting length and its Full.
func TestHeavyGroups(t *testing.T) {
	for _, x := range []struct {
		said   string
		length uint64 // the acting one
		weighs int
	}{
		{"a:uint8 g{32 x:uint8 } d$8", 1, 1}, {"a:uint8 g{32 x:uint8 } d$8", 40, 40}, {"a:uint8 +900 g{32 x:uint8 +99 } d$8", 1, 100}, {"a:uint8 +900 g{32 x:uint8 +99 } d$8", 101, 101},
		{"a:uint8 g{32 +65000 } d$8", 0, 65000}, {"a:uint8 g{32 +65000 } d$8", 500000, 500000}, {"a:uint8 g{32 } d$8", 1 << 31, 1 << 31}, {"a:uint8 g{32 } d$8", 1<<32 - 1, 1<<32 - 1},
	} {
		f := wide(made(t, x.said))
		left := api.MaxMessage - 16 - f.Tokens[0].Full - 8
		for _, n := range []int{left / x.weighs, left/x.weighs + 1, api.MaxEntries, api.MaxEntries + 1, 1<<32 - 2, 1<<32 - 1} {
			must := ok
			switch {
			case n == 1<<32-1:
				must = api.ErrCount
			case n > api.MaxEntries:
				must = api.ErrEntries
			case n*x.weighs > left:
				must = api.ErrLong
			}
			w := wrapped(t, f, 1, 2, slices.Concat(headed(f, 1, 3, 7, 0, 1), dim(f, "g", x.length, uint64(n))))
			_, err := w.do(group("g"))
			w.must(must, err, "Group of "+x.said)
		}
	}
	// To the last byte: entries inside of entries, and a group's dimension alone.
	f := wide(made(t, "g{32 x:uint8 +1023 h{32 y:uint8 } } i{8 }"))
	rest := api.MaxMessage - 16 - 8 - 980*1024 - 980*8
	for _, more := range []int{0, 1} {
		b := slices.Concat(headed(f, 0, 3, 7, 0, 0), dim(f, "g", 1, 980))
		for i := range 980 {
			n := 0
			if i == 979 {
				n = (rest - 5 + more) % 2000
			} else if i == 978 {
				n = (rest - 5 + more) / 2000 * 2000
			}
			b = slices.Concat(b, []byte{1}, dim(f, "h", 1, uint64(n)), make([]byte, n))
		}
		b = append(b, dim(f, "i", 0, 0)...)
		w := wrapped(t, f, 0, 0, b)
		w.must([]api.Errno{ok, api.ErrLong}[more], w.skip(), "Skip to the last byte")
	}
}

// P19.3: groups as deep as they may be, each with fields of the same names.
func TestDeep(t *testing.T) {
	said := "a:uint16 "
	for range api.MaxNest {
		said += "g{8 a:uint16 . "
	}
	f := made(t, said+strings.Repeat("} ", api.MaxNest))
	calls := []api.Call{set("a", 0x0102)}
	for i := range api.MaxNest {
		calls = append(calls, count("g", 2), next(), set("a", uint64(i)))
	}
	for i := range api.MaxNest {
		calls = append(calls, next(), set("a", uint64(100+i)))
		if i > 0 {
			calls = append(calls, count("g", 0))
		}
	}
	b := written(t, f, 2, calls...)
	w := wrapped(t, f, 1, 1, b)
	for _, c := range calls {
		if c.Kind == api.CallField {
			w.tells(c.Name, c.Words...)
		} else {
			w.all(plain([]api.Call{c})...)
		}
	}
	want(t, "Done", w.d.Done(), true)
	want(t, "End", w.d.End(), 1+len(b))
	w.refuse(next(), api.ErrOrder)
	for n := range calls {
		w := wrapped(t, f, 1, 1, b)
		w.all(plain(calls[:n])...)
		w.must(ok, w.skip(), "Skip")
		want(t, "End", w.d.End(), 1+len(b))
	}
}
