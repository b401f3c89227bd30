package dec_test

import (
	"slices"
	"testing"

	"stencil/api"
)

// P19.2: where several errors hold of a Wrap the answer is the first one; the rows mend one after the other.
func TestFirstErrorOfWrap(t *testing.T) {
	f := wide(made(t, "@1 a:uint8*3"))
	long := uint64(api.MaxMessage)
	w := newTwin(t, f, 1)
	for _, x := range []struct {
		b    []byte
		at   int
		must api.Errno
	}{
		{headed(f, 0, 9, 9, 9, 0)[:15], 16, api.ErrBuffer},
		{headed(f, 0, 9, 9, 9, 0)[:15], -1, api.ErrBuffer},
		{headed(f, 0, 9, 9, 9, 0)[:15], 0, api.ErrShort},
		{headed(f, 0, 9, 9, 9, 0), 0, api.ErrSchemaID},
		{headed(f, long, 9, 9, 0, 0), 0, api.ErrSchemaID},
		{headed(f, 0, 9, 7, 9, 0), 0, api.ErrTemplate},
		{headed(f, long, 9, 7, 0, 0), 0, api.ErrTemplate},
		{headed(f, 0, 3, 7, 3, 0), 0, api.ErrActing},
		{headed(f, 0, 3, 7, 0, 0), 0, api.ErrActing},
		{headed(f, long, 3, 7, 3, 0), 0, api.ErrActing},
		{headed(f, 0, 3, 7, 1, 0), 0, api.ErrBlock},
		{headed(f, 2, 3, 7, 2, 0), 0, api.ErrBlock},
		{headed(f, long, 3, 7, 2, 0), 0, api.ErrLong},
		{headed(f, long-15, 3, 7, 2, 0), 0, api.ErrLong},
		{headed(f, long-16, 3, 7, 2, 0), 0, api.ErrShort},
		{headed(f, 3, 3, 7, 2, 2), 0, api.ErrShort},
		{headed(f, 3, 3, 7, 2, 3), 0, ok},
	} {
		w.must(x.must, w.wrap(w.buffer(0, x.b), x.at), "P19.2: Wrap")
	}
}

// P19.3: where several errors hold of a call the answer is the first one.
func TestFirstErrorOfCalls(t *testing.T) {
	f := wide(made(t, "a:uint8 g{32 x:uint8 +65000 } d$32"))
	front := headed(f, 1, 3, 7, 1, 1)
	const null = 1<<32 - 1
	groups := func(length, n uint64) []byte { return append(slices.Clone(front), dim(f, "g", length, n)...) }
	texts := func(n uint64) []byte { return append(groups(0, 0), told(f, "d", n)...) }
	for _, x := range []struct {
		b     []byte
		ahead []api.Call
		call  api.Call
		must  api.Errno
	}{
		// A call that may not come, whatever the bytes.
		{groups(0, null), nil, data("d"), api.ErrOrder},
		{groups(0, null), nil, next(), api.ErrOrder},
		{groups(0, null), nil, group("no"), api.ErrOrder},
		{front, nil, field("x"), api.ErrOrder},
		// The dimension's bytes, its count, the entries, the block, the weight.
		{groups(0, null)[:len(front)+7], nil, group("g"), api.ErrShort},
		{groups(0, null), nil, group("g"), api.ErrCount},
		{groups(null, null), nil, group("g"), api.ErrCount},
		{groups(0, null-1), nil, group("g"), api.ErrEntries},
		{groups(null, null-1), nil, group("g"), api.ErrEntries},
		{groups(0, api.MaxEntries+1), nil, group("g"), api.ErrEntries},
		{groups(0, api.MaxEntries), nil, group("g"), api.ErrBlock},
		{groups(0, 1), nil, group("g"), api.ErrBlock},
		{groups(1, api.MaxEntries), nil, group("g"), api.ErrLong},
		{groups(1, 17), nil, group("g"), api.ErrLong},
		{groups(null, 1), nil, group("g"), api.ErrLong},
		{groups(null, 0), nil, group("g"), ok},
		{groups(1, 15), nil, group("g"), ok},
		// The entry's bytes aren't asked ahead of next.
		{groups(900000, 1), nil, group("g"), ok},
		{groups(900000, 1), []api.Call{group("g")}, next(), api.ErrShort},
		{groups(900000, 1), []api.Call{group("g")}, data("d"), api.ErrOrder},
		// The length's bytes, its number, the weight, the bytes.
		{texts(null)[:len(front)+11], []api.Call{group("g")}, data("d"), api.ErrShort},
		{texts(null), []api.Call{group("g")}, data("d"), api.ErrData},
		{texts(null - 1), []api.Call{group("g")}, data("d"), api.ErrLong},
		{texts(api.MaxMessage - 16 - 1 - 8 - 4 + 1), []api.Call{group("g")}, data("d"), api.ErrLong},
		{texts(api.MaxMessage - 16 - 1 - 8 - 4), []api.Call{group("g")}, data("d"), api.ErrShort},
		{texts(1), []api.Call{group("g")}, data("d"), api.ErrShort},
		{texts(0), []api.Call{group("g")}, data("d"), ok},
	} {
		for _, g := range []api.Form{f, made(t, "a:uint8")} {
			w := newTwin(t, g, 1)
			w.refuse(x.call, api.ErrWrap)
		}
		w := wrapped(t, f, 1, 2, x.b)
		w.all(x.ahead...)
		_, err := w.do(x.call)
		w.must(x.must, err, short(x.call))
	}
}

// P19.3, P0.5: a call that is refused leaves all as it was: ahead of every call of a message every other call is tried, and the message goes on as if nothing had been.
func TestRefusedChangesNothing(t *testing.T) {
	f := made(t, sides)
	for acting := range 3 {
		b := written(t, f, acting, sidesAt(acting)...)
		for reader := range 3 {
			w := wrapped(t, f, reader, 3, b)
			calls := known(reader, acting)
			for i := range len(calls) + 1 {
				for _, name := range []string{"a", "b", "g", "x", "y", "h", "z", "e", "i", "j", "w", "f", "l", "d", "n", "M", ""} {
					for kind := api.CallKind(-1); kind < 5; kind++ {
						// Only what is refused for sure: what is taken would be another message.
						c := api.Call{Kind: kind, Name: name}
						if w.m.would(c) != ok {
							w.do(c)
						}
					}
				}
				if i < len(calls) {
					w.all(calls[i])
				}
			}
			want(t, "Done", w.d.Done(), true)
		}
	}
}

// would is what a call would be answered.
func (m second) would(c api.Call) api.Errno {
	_, err := m.do(c)
	return err
}

// P19.3: what a refused dimension, length or text claimed, counted and weighed is taken back: the same calls, once the caller has mended the bytes, go on from there.
func TestRefusedAndMended(t *testing.T) {
	f := made(t, "a:uint8 g{8 x:uint8 } d$8")
	b := written(t, f, 1, set("a", 1), count("g", 2), next(), set("x", 2), next(), set("x", 3), text("d", "hi"))
	for _, x := range []struct {
		at   int
		put  byte
		must api.Errno
	}{{9, 0, api.ErrBlock}, {10, 255, api.ErrLong}, {11, 255, api.ErrCount}, {14, 255, api.ErrData}, {14, 3, api.ErrShort}, {14, 254, api.ErrShort}} {
		w := wrapped(t, f, 2, 0, b)
		was := b[x.at]
		// Entries so long that 254 of them are too heavy.
		if x.must == api.ErrLong {
			w.writes(w.memories[0], 11, 254)
		}
		w.writes(w.memories[0], x.at, x.put)
		for _, c := range []api.Call{field("a"), group("g"), next(), next(), field("x"), data("d")} {
			if _, err := w.do(c); err == ok {
				continue
			}
			w.refuse(c, x.must)
			w.must(x.must, w.skip(), "Skip")
			w.writes(w.memories[0], x.at, was)
			w.writes(w.memories[0], 11, 2)
			w.all(c)
		}
		want(t, "Done", w.d.Done(), true)
		want(t, "End", w.d.End(), len(b))
	}
}
