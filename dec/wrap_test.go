package dec_test

import (
	"math"
	"slices"
	"testing"

	"stencil/api"
	"stencil/prim"
)

// headed are a message's header with these numbers, and so many bytes behind it.
func headed(f api.Form, block, template, schema, version uint64, rest int) []byte {
	b := slices.Repeat([]byte{77}, f.Head.Size+rest)
	for s, n := range map[api.Spot]uint64{f.Head.Block: block, f.Head.Template: template, f.Head.Schema: schema, f.Head.Version: version} {
		prim.Put(b, s.Offset, s.Prim, f.Order, n)
	}
	return b
}

// P19.2: buffers of just the bytes that are wanted and of fewer, at all places.
func TestWrap(t *testing.T) {
	for _, said := range []string{chapter, "", ". . +200", "d$8", "a:uint64*20", "k! a@1:uint32"} {
		f := made(t, said)
		for version := range 3 {
			b := written(t, f, version)
			for size := range len(b) + 1 {
				for _, at := range []int{0, 1, 5} {
					w := newTwin(t, f, 2-version)
					y := w.buffer(at, b[:size])
					must := api.ErrShort
					if size == len(b) {
						must = ok
					}
					w.must(must, w.wrap(y, at), "P19.2: Wrap")
					w.must(api.ErrShort, w.wrap(y, at+size), "P19.2: Wrap at the end")
					w.must(api.ErrBuffer, w.wrap(y, at+size+1), "P19.2: Wrap behind the end")
					w.must(api.ErrBuffer, w.wrap(y, -1), "P19.2: Wrap ahead of all")
					if must == ok {
						want(t, "P19.6: End", w.d.End(), at+len(b))
						want(t, "P19.6: Acting", w.d.Acting(), version)
					}
				}
			}
		}
	}
}

// P19.2, P19.7: places far outside, and buffers that are nil or empty, with room behind them that would do.
func TestWrapOutside(t *testing.T) {
	d := begin(t, made(t, chapter), 1)
	whole := []byte(sample)
	for _, b := range [][]byte{nil, {}, whole[:0], whole[:11], whole} {
		for _, at := range []int{math.MinInt, math.MinInt + 1, math.MinInt32, -1, 19, 1 << 20, math.MaxInt32, math.MaxInt - 11, math.MaxInt - 8, math.MaxInt - 1, math.MaxInt} {
			want(t, "Wrap outside", d.Wrap(b, at), api.ErrBuffer)
		}
	}
	for _, b := range [][]byte{nil, {}, whole[:0], whole[:7], whole[:8], whole[:10]} {
		want(t, "Wrap of too few", d.Wrap(b, 0), api.ErrShort)
		want(t, "Wrap at the end", d.Wrap(b, len(b)), api.ErrShort)
		want(t, "Wrap behind the end", d.Wrap(b, len(b)+1), api.ErrBuffer)
	}
	want(t, "End", d.End(), 0)
	// Room behind the length is none.
	want(t, "Wrap of just enough", d.Wrap(whole[:11], 0), ok)
	wantGroup(t, d, "g", 0, api.ErrShort)
	wantSkip(t, d, 0, api.ErrShort)
	want(t, "Wrap of some more", d.Wrap(whole[:16], 0), ok)
	wantGroup(t, d, "g", 1, ok)
	want(t, "Next", d.Next(), ok)
	wantData(t, d, "d", "", api.ErrShort)
	want(t, "bytes", string(whole), sample)
}

// P19.2: headers of all kinds: any order of their numbers, bytes between them, all types, both orders of bytes.
func TestHeaders(t *testing.T) {
	for _, h := range []api.Head{
		{Size: 4, Block: spot(api.Uint8, 3), Template: spot(api.Uint8, 2), Schema: spot(api.Uint8, 1), Version: spot(api.Uint8, 0)},
		{Size: 16, Block: spot(api.Uint32, 12), Template: spot(api.Uint32, 4), Schema: spot(api.Uint32, 0), Version: spot(api.Uint32, 8)},
		{Size: 20, Block: spot(api.Uint16, 1), Template: spot(api.Uint32, 7), Schema: spot(api.Uint8, 4), Version: spot(api.Uint16, 16)},
		{Size: 65535, Block: spot(api.Uint16, 65533), Template: spot(api.Uint8, 0), Schema: spot(api.Uint32, 30000), Version: spot(api.Uint8, 9)},
	} {
		f := made(t, chapter+" +9")
		f.Head, f.Schema, f.Version = h, 254, 253
		for _, g := range []api.Form{f, big(f)} {
			for _, version := range []int{0, 1, 2, 253} {
				w := wrapped(t, g, 253-version, 3, written(t, g, version, set("a", 1), set("b", 2), count("g", 0), text("d", "")))
				want(t, "Acting", w.d.Acting(), version)
				w.tells("a", 1)
				w.tells("b", 2)
			}
		}
	}
	// All numbers at their greatest.
	f := made(t, "a:uint8")
	f.Schema, f.Version = api.MaxID-1, api.MaxVersion
	f = changed(f, 0, func(t *api.Token) { t.ID, t.Block, t.Full = api.MaxID-1, 65534, 65534 })
	for _, g := range []api.Form{f, big(f)} {
		b := headed(g, 65534, 65534, 65534, 65534, 65534)
		want(t, "the header", string(b[:8]) == "\xfe\xff\xfe\xff\xfe\xff\xfe\xff", g.Order == api.Little)
		w := wrapped(t, g, 0, 0, b)
		want(t, "Acting", w.d.Acting(), 65534)
		w.tells("a", 77)
	}
}

// P19.2: other schemas, other templates, versions that are refused, and those that aren't; numbers like the right ones but for their higher bytes; and which error comes first.
func TestForeign(t *testing.T) {
	f := wide(made(t, "@1 a:uint8 b@2:uint8 d$8"))
	f.Version = 4
	for _, g := range []api.Form{f, big(f)} {
		w := newTwin(t, g, 2)
		ask := func(block, template, schema, version uint64) {
			t.Helper()
			must := ok
			switch {
			case schema != 7:
				must = api.ErrSchemaID
			case template != 3:
				must = api.ErrTemplate
			case version < 1 || version > 4:
				must = api.ErrActing
			case block == 0:
				must = api.ErrBlock
			case block > 2:
				must = api.ErrLong
			}
			w.memories = nil
			w.must(must, w.wrap(w.buffer(2, headed(g, block, template, schema, version, 2)), 2), "P19.2: Wrap")
		}
		for _, n := range []uint64{0, 1, 2, 3, 4, 5, 6, 7, 8, 255, 256, 258, 259, 263, 65535, 65536 + 3, 65536 + 7, 1<<24 + 2, 1 << 31, 1<<32 - 1} {
			for _, block := range []uint64{0, 2, 1<<32 - 1} {
				for i := range 8 {
					numbers := [3]uint64{3, 7, 2}
					for k := range numbers {
						if i>>k&1 == 1 {
							numbers[k] = n
						}
					}
					ask(block, numbers[0], numbers[1], numbers[2])
				}
			}
		}
	}
}

// P19.2: block lengths of just what the block reaches, one less, one more, and as long as the header may tell, at each version; what a reader knows makes no difference.
func TestBlocks(t *testing.T) {
	for _, x := range []struct {
		said  string
		reach []int
	}{
		{chapter, []int{3, 3, 5}},
		{"", []int{0, 0, 0}},
		{"k! . . .", []int{0, 0, 0}},
		{". . a:uint8 . . b@1:uint16 . c@2:uint8 . +40", []int{3, 7, 9}},
		{"a@1:uint8 k@1! b@1:(=uint8,.) n@2:(=uint8)", []int{0, 2, 2}},
		{"a:uint8 k@1! c@2:(.,.,.)", []int{1, 1, 4}},
	} {
		f := made(t, x.said)
		for _, g := range []api.Form{f, big(f)} {
			for version, reach := range x.reach {
				for _, length := range []int{0, reach - 1, reach, reach + 1, reach + 2, 50, 254, 255, 256, 65534, 65535} {
					if length < 0 {
						continue
					}
					for reader := range 3 {
						b := headed(g, uint64(length), 3, 7, uint64(version), length)
						w := newTwin(t, g, reader)
						must := ok
						if length < reach {
							must = api.ErrBlock
						}
						w.must(must, w.wrap(w.buffer(1, b), 1), "P19.2: Wrap")
						if must == ok {
							want(t, "End", w.d.End(), 9+length)
							w.must(api.ErrShort, w.wrap(w.buffer(1, b[:len(b)-1]), 1), "Wrap of a byte less")
						}
					}
				}
			}
		}
	}
}

// P19.2: header and block of just MaxMessage, and one more; which error comes first.
func TestHeavyWrap(t *testing.T) {
	f := wide(made(t, "a:uint8*5 d$8"))
	most := api.MaxMessage - 16
	b := headed(f, uint64(most), 3, 7, 1, most+2)
	w := wrapped(t, f, 2, 0, b[:16+most])
	want(t, "End", w.d.End(), api.MaxMessage)
	w.tells("a", 77, 77, 77, 77, 77)
	w.refuse(data("d"), api.ErrShort)
	w.must(api.ErrShort, w.wrap(w.buffer(0, b[:16+most-1]), 0), "Wrap of a byte less")
	for _, length := range []uint64{uint64(most) + 1, uint64(most) + 2, 1 << 31, 1<<32 - 1} {
		b := with(b, 0, byte(length), byte(length>>8), byte(length>>16), byte(length>>24))
		w.must(api.ErrLong, w.wrap(w.buffer(0, b), 0), "Wrap of a byte more")
		w.must(api.ErrLong, w.wrap(w.buffer(0, b[:16]), 0), "Wrap of a byte more, of which there are none")
	}
	// The data behind such a block weighs too.
	w.must(ok, w.wrap(w.buffer(0, append(b[:16+most:16+most], 0)), 0), "Wrap")
	w.refuse(data("d"), api.ErrLong)
	w.must(api.ErrLong, w.skip(), "Skip")
	// A block weighs its Full, where the bytes have less.
	g := made(t, "a:uint8 +65000 d$32")
	g.Head = api.Head{Size: 65535, Block: spot(api.Uint32, 0), Template: spot(api.Uint8, 4), Schema: spot(api.Uint8, 5), Version: spot(api.Uint8, 6)}
	rest := api.MaxMessage - 65535 - 65001 - 4
	for more, must := range []api.Errno{ok, api.ErrLong} {
		n := rest + more
		b := append(headed(g, 1, 3, 7, 0, 1), byte(n), byte(n>>8), byte(n>>16), 0)
		w := wrapped(t, g, 0, 0, append(b, make([]byte, n)...))
		_, err := w.do(data("d"))
		w.must(must, err, "Data")
	}
}

// P19.2: a Wrap amid a message: one that is taken gives it up, one that is refused doesn't.
func TestWrapAgain(t *testing.T) {
	f := made(t, chapter)
	b := written(t, f, 2, set("a", 1), set("c", 2), count("g", 2), next(), set("x", 2), next(), set("x", 3), text("d", "hi"), text("n", "you"))
	calls := []api.Call{field("a"), field("c"), group("g"), next(), field("x"), next(), field("x"), data("d"), data("n")}
	for n := range len(calls) + 2 {
		before := func(w *twin) {
			w.all(calls[:min(n, len(calls))]...)
			if n > len(calls) {
				w.must(ok, w.skip(), "Skip")
			}
		}
		w := wrapped(t, f, 2, 2, b)
		before(w)
		w.must(api.ErrShort, w.wrap(w.buffer(0, b[:10]), 0), "Wrap")
		w.must(api.ErrBuffer, w.wrap(w.memories[0], -1), "Wrap")
		w.must(api.ErrBuffer, w.wrap(w.memories[0], len(b)+3), "Wrap")
		w.must(api.ErrSchemaID, w.wrap(w.buffer(0, with(b, 4, 8)), 0), "Wrap")
		w.must(api.ErrActing, w.wrap(w.buffer(0, with(b, 6, 9)), 0), "Wrap")
		w.must(api.ErrBlock, w.wrap(w.buffer(0, with(b, 0, 4)), 0), "Wrap")
		if n > len(calls) {
			w.refuse(field("x"), api.ErrOrder)
		} else {
			w.all(calls[n:]...)
		}
		want(t, "Done", w.d.Done(), true)

		w = wrapped(t, f, 2, 2, b)
		before(w)
		w.must(ok, w.wrap(w.buffer(25, []byte(sample)), 25), "Wrap")
		want(t, "End", w.d.End(), 36)
		want(t, "Acting", w.d.Acting(), 1)
		want(t, "Done", w.d.Done(), false)
		w.refuse(next(), api.ErrOrder)
		w.tells("c", 65535)
		w.counts("g", 1)
		w.all(next())
		w.tells("x", 4)
		w.must(ok, w.wrap(w.memories[0], 2), "Wrap")
		w.all(calls...)
	}
}

// P19.2: messages one behind the other in one buffer: each begins where Skip has come to.
func TestManyMessages(t *testing.T) {
	f := made(t, chapter)
	var b []byte
	for i := range 9 {
		calls := []api.Call{set("a", uint64(i)), set("b", uint64(i)), count("g", i%4)}
		for range i % 4 {
			calls = append(calls, next(), set("x", uint64(i)))
		}
		calls = append(calls, text("d", string(slices.Repeat([]byte("d"), i))))
		if i%3 == 2 {
			calls = append(calls, text("n", "nn"))
		}
		b = append(b, written(t, f, i%3, calls...)...)
	}
	for reader := range 3 {
		w := newTwin(t, f, reader)
		y := w.buffer(5, b)
		at := 5
		for i := range 9 {
			w.must(ok, w.wrap(y, at), "Wrap")
			want(t, "Acting", w.d.Acting(), i%3)
			w.tells("a", uint64(i))
			w.counts("g", i%4)
			w.must(ok, w.skip(), "Skip")
			at = w.d.End()
		}
		want(t, "the last end", at, 5+len(b))
	}
}
