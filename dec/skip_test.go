package dec_test

import (
	"testing"

	"stencil/api"
)

// sides is a message with all kinds of members, some of which came later.
const sides = "a:uint8 b@1:uint16 g{8 x:uint8 y@2:uint8 h{16 z:int16 } e$8 } i{8 } j@1{8 w:uint8 f$16 } l@2{8 } d@2$16 n@2$8"

// sidesAt are the calls that write a message of sides at a version.
func sidesAt(version int) []api.Call {
	out := []api.Call{set("a", 1)}
	later := func(since int, calls ...api.Call) {
		if version >= since {
			out = append(out, calls...)
		}
	}
	later(1, set("b", 515))
	later(0, count("g", 2), next(), set("x", 5))
	later(2, set("y", 6))
	later(0, count("h", 2), next(), set("z", 7), next(), set("z", 8), text("e", "eee"), next(), set("x", 9), count("h", 0), text("e", ""), count("i", 1), next())
	later(1, count("j", 2), next(), set("w", 10), text("f", "ff"), next(), set("w", 11), text("f", ""))
	later(2, count("l", 3), next(), next(), next(), text("d", "dd"), text("n", "nnn"))
	return out
}

// known are the calls by which a reader of a version reads a message of another: groups that the bytes don't have are empty.
func known(reader, acting int) []api.Call {
	out := plain(sidesAt(min(reader, acting)))
	if reader > acting && acting < 1 {
		out = append(out, group("j"))
	}
	if reader > acting && reader == 2 {
		out = append(out, group("l"), data("d"), data("n"))
	}
	return out
}

// P19.5, P19.6: Skip from every place of a message, twice, for all readers and versions: all the bytes are gone through, and every call behind it is refused.
func TestSkip(t *testing.T) {
	f := made(t, sides)
	for acting := range 3 {
		for _, g := range []api.Form{f, big(f)} {
			b := written(t, g, acting, sidesAt(acting)...)
			for reader := range 3 {
				calls := known(reader, acting)
				for n := range len(calls) + 1 {
					w := wrapped(t, g, reader, 3, b)
					w.all(calls[:n]...)
					w.must(ok, w.skip(), "Skip")
					want(t, "End", w.d.End(), 3+len(b))
					want(t, "Done", w.d.Done(), true)
					want(t, "Acting", w.d.Acting(), acting)
					for _, c := range append(every(), calls...) {
						w.refuse(c, api.ErrOrder)
					}
					w.must(ok, w.skip(), "Skip again")
					w.must(ok, w.skip(), "Skip again")
				}
				w := wrapped(t, g, reader, 3, b)
				w.all(calls...)
				want(t, "Done of all calls", w.d.Done(), true)
			}
		}
	}
}

// P19.5: behind Skip the bytes aren't looked at again.
func TestSkipAgain(t *testing.T) {
	w := wrapped(t, made(t, chapter), 2, 0, []byte(sample))
	w.must(ok, w.skip(), "Skip")
	for i := range len(sample) {
		w.writes(w.memories[0], i, 255)
	}
	w.must(ok, w.skip(), "Skip")
	want(t, "End", w.d.End(), 18)
	want(t, "Acting", w.d.Acting(), 1)
	w.refuse(field("a"), api.ErrOrder)
}

// P19.5: a message of which any bytes at the end are missing: from every place Skip is refused, and behind that the same calls go on as if it had not been asked.
func TestSkipShort(t *testing.T) {
	f := made(t, sides)
	for acting := range 3 {
		b := written(t, f, acting, sidesAt(acting)...)
		for reader := range 3 {
			calls := known(reader, acting)
			for size := range b {
				w := newTwin(t, f, reader)
				if w.wrap(w.buffer(2, b[:size]), 2) != ok {
					continue
				}
				for _, c := range calls {
					w.must(api.ErrShort, w.skip(), "Skip")
					w.must(api.ErrShort, w.skip(), "Skip")
					if _, err := w.do(c); err != ok {
						w.refuse(c, api.ErrShort)
						break
					}
				}
				w.must(api.ErrShort, w.skip(), "Skip")
			}
		}
	}
}

// P19.3, P19.5: each byte of a message made another: Skip ahead of each call, where it is refused, and behind the last one, all as the second decoder answers it.
func TestSkipSpoilt(t *testing.T) {
	f := made(t, sides)
	got := map[api.Errno]int{}
	for acting := range 3 {
		b := written(t, f, acting, sidesAt(acting)...)
		for reader := range 3 {
			calls := known(reader, acting)
			for at := range b {
				for _, x := range []byte{0, 1, 3, 4, 254, 255, b[at] + 1} {
					w := newTwin(t, f, reader)
					if err := w.wrap(w.buffer(1, with(b, at, x)), 1); err != ok {
						got[err]++
						continue
					}
					for _, c := range calls {
						if w.m.wouldSkip() != ok {
							got[w.skip()]++
						}
						w.do(c)
					}
					w.skip()
				}
			}
		}
	}
	for _, err := range []api.Errno{api.ErrShort, api.ErrSchemaID, api.ErrTemplate, api.ErrActing, api.ErrBlock, api.ErrCount, api.ErrData} {
		if got[err] == 0 {
			t.Errorf("no Wrap or Skip was answered %v", err)
		}
	}
}

// wouldSkip is what a Skip would be answered: one that is taken would end the message.
func (m second) wouldSkip() api.Errno {
	_, err := m.skip()
	return err
}

// P19.5: what is refused amid a Skip leaves no entry and no weight behind: what may come, just up to the limits, still does.
func TestSkipKeepsBudgets(t *testing.T) {
	f := made(t, "g{32 } h{32 } d$32 e$8")
	b := append(headed(f, 0, 3, 7, 0, 0), dim(f, "g", 0, 30000)...)
	b = append(b, dim(f, "h", 0, api.MaxEntries-30000)...)
	n := api.MaxMessage - 8 - 6 - 6 - 4 - 1
	b = append(append(b, told(f, "d", uint64(n))...), make([]byte, n)...)
	w := wrapped(t, f, 1, 0, b)
	for range 5 {
		w.must(api.ErrShort, w.skip(), "Skip of all but the last byte")
	}
	w.counts("g", 30000)
	for range 5 {
		w.must(api.ErrShort, w.skip(), "Skip of all but the last byte")
	}
	for range 30000 {
		if w.d.Next() != ok {
			t.Fatal("Next")
		}
	}
	w.m.known, w.m.there = w.m.known[1:], w.m.there[1:]
	w.must(api.ErrShort, w.skip(), "Skip of all but the last byte")
	w.counts("h", api.MaxEntries-30000)
}
