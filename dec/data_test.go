package dec_test

import (
	"slices"
	"strings"
	"testing"

	"stencil/api"
	"stencil/prim"
)

// told are the bytes of data's length with this number, by its token.
func told(f api.Form, name string, n uint64) []byte {
	t := f.Tokens[placeOf(f, name)]
	b := make([]byte, t.Size)
	prim.Put(b, 0, t.A.Prim, f.Order, n)
	return b
}

// P19.3: data of no bytes, of as many as its length may tell, of the null's length, of lengths beyond the buffer, in both orders.
func TestLengths(t *testing.T) {
	for _, bits := range []string{"8", "16", "32"} {
		f := made(t, "d$"+bits+" e$8")
		p := counters[bits]
		for _, g := range []api.Form{f, big(f)} {
			for _, n := range []uint64{0, 1, 2, 253, 254, 255, 256, 65533, 65534, 65535, 65536, 70000, 1 << 20, 1<<32 - 3, 1<<32 - 2, 1<<32 - 1} {
				if n > prim.Null(p) {
					continue
				}
				there := min(n, 70000)
				b := slices.Concat(headed(g, 0, 3, 7, 0, 0), told(g, "d", n), []byte(strings.Repeat("x\x00\xff", int(there)/3+1)[:there]), []byte{0})
				w := wrapped(t, g, 2, 3, b)
				w.refuse(data("e"), api.ErrOrder)
				switch {
				case n == prim.Null(p):
					w.refuse(data("d"), api.ErrData)
					w.must(api.ErrData, w.skip(), "Skip")
					// Whether it weighs too much, or isn't there, comes later.
					w = wrapped(t, g, 2, 3, b[:8+prim.Size(p)])
					w.refuse(data("d"), api.ErrData)
				case n > 70000:
					w.refuse(data("d"), api.ErrLong)
					w.must(api.ErrLong, w.skip(), "Skip")
				default:
					w.says("d", string(b[8+prim.Size(p):len(b)-1]))
					w.refuse(data("d"), api.ErrOrder)
					w.says("e", "")
					want(t, "Done", w.d.Done(), true)
					w = wrapped(t, g, 2, 3, b)
					w.must(ok, w.skip(), "Skip")
				}
			}
		}
	}
}

// P19.3: for lengths and texts there are too few bytes.
func TestShortData(t *testing.T) {
	for _, bits := range []string{"8", "16", "32"} {
		f := made(t, "a:uint8 d$"+bits)
		size := prim.Size(counters[bits])
		b := slices.Concat(headed(f, 1, 3, 7, 0, 1), told(f, "d", 5), []byte("hello"))
		for n := 9; n < len(b); n++ {
			w := wrapped(t, f, 2, 4, b[:n])
			w.refuse(data("d"), api.ErrShort)
			w.must(api.ErrShort, w.skip(), "Skip")
			w.tells("a", 77)
			want(t, "End", w.d.End(), 13)
		}
		wrapped(t, f, 2, 4, b).says("d", "hello")
		// A byte behind the text isn't taken.
		w := wrapped(t, f, 2, 4, append(b, '!'))
		w.says("d", "hello")
		want(t, "End", w.d.End(), 4+9+size+5)
	}
}

// P19.3: names of data that may not come.
func TestDataNames(t *testing.T) {
	f := made(t, "a:uint8 g{8 e$8 } d$8 c$8 n@2$8")
	w := wrapped(t, f, 1, 1, written(t, f, 2, count("g", 1), next(), text("e", "1"), text("d", "2"), text("c", "3"), text("n", "4")))
	refused := func(names ...string) {
		t.Helper()
		for _, name := range append(names, "", "a", "g", "n", "M", "no") {
			w.refuse(data(name), api.ErrOrder)
		}
	}
	refused("c", "d", "e")
	w.counts("g", 1)
	refused("c", "d", "e")
	w.all(next())
	refused("c", "d")
	w.says("e", "1")
	refused("c", "e")
	w.says("d", "2")
	refused("d", "e")
	w.says("c", "3")
	refused("c", "d", "e")
	want(t, "Done", w.d.Done(), true)
}

// P19.3: data that weighs, with what is ahead of it, just as much as a message may, and one byte more; which error comes first.
func TestHeavyData(t *testing.T) {
	for _, x := range []struct {
		said  string
		ahead int // what weighs ahead of the bytes of d
		calls []api.Call
	}{
		{"d$32", 12, nil},
		{"a:uint8 +999 d$32", 12 + 1000, nil},
		{"g{16 x:uint8 +9 } d$32", 12 + 4 + 20, []api.Call{count("g", 2), next(), next()}},
		{"c$16 d$32", 12 + 2 + 5, []api.Call{text("c", "12345")}},
	} {
		f := made(t, x.said)
		most := api.MaxMessage - x.ahead
		front := written(t, f, 1, x.calls...)
		for more, must := range []api.Errno{ok, api.ErrLong, api.ErrLong} {
			b := slices.Concat(front, told(f, "d", uint64(most+more)), make([]byte, most+more))
			w := wrapped(t, f, 2, 1, b)
			w.all(plain(x.calls)...)
			_, err := w.do(data("d"))
			w.must(must, err, "Data")
			w = wrapped(t, f, 2, 1, b)
			w.must(must, w.skip(), "Skip")
			// Where the bytes aren't there either, the weight comes first.
			w = wrapped(t, f, 2, 1, b[:len(b)-1-more])
			w.all(plain(x.calls)...)
			w.refuse(data("d"), []api.Errno{api.ErrShort, api.ErrLong, api.ErrLong}[more])
		}
	}
	// The length's own bytes weigh too; and what is refused weighs nothing.
	f := made(t, "d$32 e$16")
	for _, x := range []struct {
		left, length int // how much e may weigh, and how many bytes it tells
		must         api.Errno
	}{{0, 0, api.ErrLong}, {1, 0, api.ErrLong}, {2, 0, ok}, {3, 2, api.ErrLong}, {4, 2, ok}} {
		n := api.MaxMessage - 12 - x.left
		b := slices.Concat(headed(f, 0, 3, 7, 0, 0), told(f, "d", uint64(n)), make([]byte, n), told(f, "e", uint64(x.length)), []byte{1, 2})
		w := wrapped(t, f, 2, 0, b)
		w.all(data("d"))
		if x.must != ok {
			for range 3 {
				w.refuse(data("e"), x.must)
				w.must(x.must, w.skip(), "Skip")
			}
			continue
		}
		w.says("e", "\x01\x02"[:x.length])
	}
}

// P19.2, P19.3: what a message weighs begins anew with a Wrap that is taken, and stays with one that is refused.
func TestWeightOfEachMessage(t *testing.T) {
	f := made(t, "d$32 e$8")
	n := api.MaxMessage - 13 - 4
	b := slices.Concat(headed(f, 0, 3, 7, 0, 0), told(f, "d", uint64(n)), make([]byte, n), []byte{5, 1, 2, 3, 4, 5})
	w := newTwin(t, f, 0)
	y := w.buffer(2, b)
	for range 3 {
		w.must(ok, w.wrap(y, 2), "Wrap")
		w.must(api.ErrShort, w.wrap(y, len(y.buffer())-7), "Wrap")
		w.all(data("d"))
		w.must(api.ErrShort, w.wrap(y, len(y.buffer())-7), "Wrap")
		w.refuse(data("e"), api.ErrLong)
		w.writes(y, 2+12+n, 4)
		w.says("e", "\x01\x02\x03\x04")
		w.writes(y, 2+12+n, 5)
	}
	// Likewise the entries.
	f = made(t, "g{32 }")
	w = newTwin(t, f, 0)
	y = w.buffer(0, append(headed(f, 0, 3, 7, 0, 0), dim(f, "g", 0, api.MaxEntries)...))
	for range 3 {
		w.must(ok, w.wrap(y, 0), "Wrap")
		w.counts("g", api.MaxEntries)
		w.must(ok, w.skip(), "Skip")
	}
}
