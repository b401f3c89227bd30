package enc_test

import (
	"math"
	"slices"
	"strings"
	"testing"

	"stencil/api"
)

// P18.3: counts below 0, of 0, 1, the greatest one and one more, of each type that counts.
func TestCounts(t *testing.T) {
	for bits, most := range map[string]int{"8": 254, "16": 65534, "32": api.MaxEntries} {
		f := made(t, "g{"+bits+" } d$8")
		beyond := api.ErrCount
		if bits == "32" {
			beyond = api.ErrEntries
		}
		for _, n := range []int{0, 1, 2, most - 1, most} {
			w := wrapped(t, f, 40, 3)
			for _, wrong := range []int{-1, -254, math.MinInt32, math.MinInt, math.MinInt + 1} {
				w.refuse(group("g", wrong), api.ErrCount)
			}
			for _, wrong := range []int{most + 1, most + 2, 1<<32 - 2} {
				if wrong < most+2 || bits == "32" {
					w.refuse(group("g", wrong), beyond)
				}
			}
			for _, wrong := range []int{1<<32 - 1, 1 << 32, math.MaxInt - 1, math.MaxInt} {
				w.refuse(group("g", wrong), api.ErrCount)
			}
			w.all(group("g", n))
			if n == 0 {
				w.refuse(next(), api.ErrOrder)
				w.all(data("d", ""))
				continue
			}
			w.refuse(data("d", ""), api.ErrOrder)
			w.all(next())
		}
	}
}

// P18.3: names of groups that may not come, whatever their count.
func TestGroupNames(t *testing.T) {
	w := wrapped(t, made(t, "a:uint8 g{8 x:uint8 i{8 } } h{8 } d$8"), 60, 1)
	refused := func(names ...string) {
		t.Helper()
		for _, name := range append(names, "", "a", "x", "d", "M", "no") {
			for _, n := range []int{-1, 0, 1, 254, 255, math.MaxInt} {
				w.refuse(group(name, n), api.ErrOrder)
			}
		}
	}
	refused("h", "i")
	w.all(group("g", 1))
	refused("g", "h", "i")
	w.all(next())
	refused("g", "h")
	w.all(group("i", 1))
	refused("g", "h", "i")
	w.all(next())
	refused("g", "i")
	w.all(group("h", 0))
	refused("g", "h", "i")
	w.all(data("d", "d"))
	refused("g", "h", "i")
}

// P18.3: dimensions of all kinds, in both orders: their numbers in any order, bytes between them (which are 0 then).
func TestDimensions(t *testing.T) {
	for _, x := range []struct {
		size int
		a, b api.Spot
	}{
		{2, spot(api.Uint8, 1), spot(api.Uint8, 0)}, {9, spot(api.Uint16, 6), spot(api.Uint32, 1)}, {8, spot(api.Uint32, 0), spot(api.Uint32, 4)}, {7, spot(api.Uint8, 3), spot(api.Uint16, 4)}, {65535, spot(api.Uint16, 65533), spot(api.Uint8, 700)},
	} {
		f := made(t, "g{8 x:uint8 . +5 h{8 } } d$8")
		f = changed(f, placeOf(f, "g"), func(t *api.Token) { t.Size, t.A, t.B = x.size, x.a, x.b })
		for _, g := range []api.Form{f, big(f)} {
			w := wrapped(t, g, 60+x.size, 2)
			w.all(group("g", 2), next(), group("h", 1), next(), next(), field("x", 1), group("h", 0), data("d", "end"))
			w.must(ok, w.wrap(w.buffer(60+x.size), 2), "Wrap")
			w.all(group("g", 254))
		}
	}
}

// P18.3: entries: none ahead of the group, one for each that was told, none more; each with a block of its own.
func TestEntries(t *testing.T) {
	for n := range 5 {
		w := wrapped(t, made(t, "a:uint8 g{8 x:uint16 . e$8 } d$8"), 80, 2)
		w.refuse(next(), api.ErrOrder)
		w.all(field("a", 1))
		w.refuse(next(), api.ErrOrder)
		w.all(group("g", n))
		for i := range n {
			at := w.e.End()
			w.all(next())
			want(t, "End", w.e.End(), at+3)
			w.refuse(next(), api.ErrOrder)
			if i%2 == 0 {
				w.all(field("x", uint64(i)+0x1020))
			}
			w.refuse(next(), api.ErrOrder)
			w.all(data("e", strings.Repeat("e", i)))
		}
		w.refuse(next(), api.ErrOrder)
		w.all(data("d", ""))
		w.refuse(next(), api.ErrOrder)
	}
}

// P18.3: a dimension, an entry's block, and a length with its bytes for which there is just room, and one byte less.
func TestJustRoom(t *testing.T) {
	f := made(t, "a:uint8 g{16 x:uint32 . h{8 } e$16 } d$8")
	calls := []api.Call{group("g", 2), next(), group("h", 0), data("e", "abc"), next(), group("h", 1), next(), data("e", ""), data("d", "xyz")}
	sizes := []int{4, 5, 3, 5, 5, 3, 0, 2, 4}
	for _, at := range []int{0, 7} {
		end := at + 9
		for n, c := range calls {
			for less := range min(2, sizes[n]+1) {
				w := wrapped(t, f, end+sizes[n]-less, at)
				w.all(calls[:n]...)
				if less == 0 {
					w.all(c)
					want(t, "End", w.e.End(), end+sizes[n])
					continue
				}
				w.refuse(c, api.ErrShort)
				w.refuse(c, api.ErrShort)
				want(t, "End", w.e.End(), end)
				// What was refused may still come, in a buffer with more room.
				w.must(ok, w.wrap(w.buffer(end+sizes[n]), at), "Wrap")
				w.all(calls[:n+1]...)
			}
			end += sizes[n]
		}
	}
}

// P18.3: a refused dimension, entry or data leaves the message where it was: what may come instead still does.
func TestShortAndOn(t *testing.T) {
	// 11 bytes for the header and the block, 3 for the dimension, 1 for an entry, and 3 more.
	w := wrapped(t, made(t, chapter), 18, 0)
	w.all(group("g", 1), next())
	w.refuse(data("d", "hey"), api.ErrShort)
	w.all(field("x", 5))
	w.refuse(data("d", strings.Repeat("h", 254)), api.ErrShort)
	w.all(field("x", 6), data("d", "hi"))
	// No room for the dimension: fields of the block may still be set.
	w = wrapped(t, made(t, chapter), 13, 0)
	w.refuse(group("g", 0), api.ErrShort)
	w.all(field("a", 1))
	w.refuse(group("g", 254), api.ErrShort)
	w.all(field("b", 2))
	want(t, "Done", w.e.Done(), false)
	// No room for an entry: those of the one ahead may still be set, which a taken call would forbid.
	w = wrapped(t, made(t, "g{8 x:uint64 }"), 20, 0)
	w.all(group("g", 3), next())
	w.refuse(next(), api.ErrShort)
	w.all(field("x", 1))
	w.refuse(next(), api.ErrShort)
	w.all(field("x", math.MaxUint64))
	want(t, "Left", slices.Equal(w.e.Left(), []int{2}), true)
}

// P18.3: groups that weigh, with what is ahead of them, just as much as a message may, and one byte more. What the blocks weigh is their Full.
func TestHeavyGroups(t *testing.T) {
	left := func(said string, ahead int) int { return api.MaxMessage - 8 - made(t, said).Tokens[0].Full - ahead }
	for _, x := range []struct{ said, full string }{{"a:uint8 ", "x:uint8"}, {"a:uint8 +900 ", "x:uint8 +99"}, {"", "+100"}, {". ", "+65000 x:uint16"}} {
		said := x.said + "g{32 " + x.full + " } h{32 +1 }"
		f := made(t, said)
		full := f.Tokens[placeOf(f, "g")].Full
		n := min(left(said, 6)/full, api.MaxEntries)
		w := wrapped(t, f, 100, 0)
		if n < api.MaxEntries {
			w.refuse(group("g", n+1), api.ErrLong)
			w.refuse(group("g", api.MaxEntries), api.ErrLong)
			w.refuse(group("g", api.MaxEntries+1), api.ErrEntries)
		}
		w.all(group("g", n))
	}
	// Entries inside of entries, to the last byte: the group h has 6 bytes, and 1 for each entry.
	said := "g{32 x:uint8 +1023 h{32 +1 } }"
	rest := left(said, 6) - 970*1024 - 6
	for _, more := range []int{0, 1, -1} {
		w := wrapped(t, made(t, said), 2000, 0)
		w.all(group("g", 970), next())
		w.refuse(group("h", api.MaxEntries-970+1), api.ErrEntries)
		w.refuse(group("h", api.MaxEntries-970), api.ErrLong)
		if more > 0 {
			// What is refused weighs nothing.
			w.refuse(group("h", rest+more), api.ErrLong)
			w.refuse(group("h", rest+more), api.ErrLong)
			w.all(group("h", rest))
			continue
		}
		w.all(group("h", rest+more))
	}
}

// P18.3: the dimension alone may be too heavy.
func TestHeavyDimension(t *testing.T) {
	said := "g{32 +1023 } h{32 +1 } i{8 }"
	// Behind g with so many entries, h's dimension and i's leave room for this many of h's.
	rest := api.MaxMessage - 8 - 6 - 1000*1023 - 6
	for _, x := range []struct {
		count int
		err   api.Errno
	}{{rest, api.ErrLong}, {rest - 2, api.ErrLong}, {rest - 3, ok}} {
		w := wrapped(t, made(t, said), 3000, 0)
		w.all(group("g", 1000))
		for range 1000 {
			if err := w.e.Next(); err != ok || w.m.do(next()) != ok {
				t.Fatal(err)
			}
		}
		w.refuse(group("h", rest+1), api.ErrLong)
		w.all(group("h", x.count))
		for range x.count {
			if err := w.e.Next(); err != ok || w.m.do(next()) != ok {
				t.Fatal(err)
			}
		}
		w.must(x.err, w.do(group("i", 0)), "Group i")
	}
}

// P18.3: a message with as many entries as there may be, each begun.
func TestManyEntries(t *testing.T) {
	w := wrapped(t, made(t, "g{32 h{16 x:uint8 } } i{32 }"), 1<<20, 0)
	w.refuse(group("g", api.MaxEntries+1), api.ErrEntries)
	w.all(group("g", 2), next())
	w.refuse(group("h", 65535), api.ErrCount)
	w.all(group("h", 65533))
	step := func(c api.Call) {
		if err := w.e.Do(c); err != ok || w.m.do(c) != ok {
			t.Fatalf("%s = %v", short(c), err)
		}
	}
	for i := range 65533 {
		step(next())
		step(field("x", uint64(i%256)))
	}
	w.all(next())
	w.refuse(group("h", 2), api.ErrEntries)
	w.all(group("h", 0))
	w.refuse(group("i", 2), api.ErrEntries)
	w.refuse(group("i", -1), api.ErrCount)
	w.all(group("i", 1), next())
	w.refuse(next(), api.ErrOrder)
	want(t, "Done", w.e.Done(), true)
}

// P18.3: the entries of a group that was refused behind the machine's step don't count.
func TestRefusedEntries(t *testing.T) {
	w := wrapped(t, made(t, "g{32 +100 h{32 } }"), 100, 0)
	w.refuse(group("g", api.MaxEntries), api.ErrLong)
	w.all(group("g", 10), next())
	w.refuse(group("h", api.MaxEntries-9), api.ErrEntries)
	w.all(group("h", api.MaxEntries-10))
	// By room, too.
	w = wrapped(t, made(t, "g{32 }"), 13, 0)
	w.refuse(group("g", api.MaxEntries), api.ErrShort)
	w.refuse(group("g", api.MaxEntries), api.ErrShort)
	want(t, "Left", len(w.e.Left()), 0)
}

// P18.3: groups as deep as they may be, each with fields of the same names.
func TestDeep(t *testing.T) {
	said := "a:uint16 "
	for range api.MaxNest {
		said += "g{8 a:uint16 . "
	}
	said += strings.Repeat("} ", api.MaxNest)
	w := wrapped(t, made(t, said), 400, 1)
	w.all(field("a", 0x0102))
	for i := range api.MaxNest {
		w.all(group("g", 2), next(), field("a", uint64(i)))
	}
	for i := range api.MaxNest {
		w.all(next(), field("a", uint64(100+i)))
		if i > 0 {
			w.all(group("g", 0))
		}
	}
	want(t, "Done", w.e.Done(), true)
	w.refuse(next(), api.ErrOrder)
}
