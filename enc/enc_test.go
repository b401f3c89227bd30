package enc_test

import (
	"math"
	"slices"
	"strings"
	"testing"

	"stencil/api"
	"stencil/enc"
	"stencil/ir"
)

// filled is a buffer of so many bytes 255.
func filled(n int) []byte { return slices.Repeat([]byte{255}, n) }

// P18.1 to P18.5: the chapter's examples.
func TestExamples(t *testing.T) {
	e := begin(t, made(t, chapter))
	want(t, "5: Field ahead of Wrap", e.Field("a", 1), api.ErrWrap)
	want(t, "5: End", e.End(), 0)

	b := filled(20)
	want(t, "1: Wrap", e.Wrap(b, 2), ok)
	want(t, "1: bytes", string(b), "\xff\xff\x03\x00\x03\x00\x07\x00\x01\x00"+string(filled(10)))
	want(t, "1: End", e.End(), 13)
	want(t, "1: Done", e.Done(), false)

	want(t, "2: Field b", e.Field("b", math.MaxUint64-1), ok)
	want(t, "2: bytes", string(b[10:]), "\xff\xfe"+string(filled(8)))
	want(t, "2: Field a 256", e.Field("a", 256), api.ErrFit)
	want(t, "2: Field a", e.Field("a"), api.ErrWords)
	want(t, "2: Field c", e.Field("c", 1), api.ErrOrder)
	want(t, "2: Next", e.Next(), api.ErrOrder)
	want(t, "2: Field a 9", e.Field("a", 9), ok)
	want(t, "2: bytes", string(b[10:]), "\x09\xfe"+string(filled(8)))

	want(t, "3: Group", e.Group("g", 1), ok)
	want(t, "3: bytes", string(b[13:]), "\x01\x00\x01"+string(filled(4)))
	want(t, "3: End", e.End(), 16)
	want(t, "3: Data ahead of Next", e.Data("d", ""), api.ErrOrder)
	want(t, "3: Next", e.Next(), ok)
	want(t, "3: End", e.End(), 17)
	want(t, "3: byte", b[16], byte(255))
	want(t, "3: Field x", e.Field("x", 4), ok)
	want(t, "3: Data hey", e.Data("d", "hey"), api.ErrShort)
	want(t, "3: Data hi", e.Data("d", "hi"), ok)
	want(t, "3: bytes", string(b), "\xff\xff\x03\x00\x03\x00\x07\x00\x01\x00\x09\xfe\xff\x01\x00\x01\x04\x02hi")
	want(t, "3: End", e.End(), 20)
	want(t, "3: Done", e.Done(), true)

	was := string(b)
	want(t, "4: Wrap at 21", e.Wrap(b, 21), api.ErrBuffer)
	want(t, "4: Wrap at -1", e.Wrap(b, -1), api.ErrBuffer)
	want(t, "4: Wrap at 10", e.Wrap(b, 10), api.ErrShort)
	want(t, "4: End", e.End(), 20)
	want(t, "4: Done", e.Done(), true)
	want(t, "4: bytes", string(b), was)
}

// P18.3: the chapter's sixth example.
func TestExampleOfRoom(t *testing.T) {
	e := begin(t, made(t, chapter))
	// The header, the block, the dimension and four entries are 18 bytes.
	want(t, "Wrap", e.Wrap(filled(20), 2), ok)
	want(t, "Group 255", e.Group("g", 255), api.ErrCount)
	want(t, "Group 254", e.Group("g", 254), ok)
	for range 4 {
		want(t, "Next", e.Next(), ok)
	}
	want(t, "fifth Next", e.Next(), api.ErrShort)
	want(t, "End", e.End(), 20)
}

// P18.1: what ir.Check refuses has no encoder, and all else has one, behind which no message is begun.
func TestNew(t *testing.T) {
	whole := made(t, "a:uint8 k! b:(int16,.,<uint8>,[uint16],=char*2) g{16 x:uint8*3 h{8 } e$16 } d$32 +4")
	refused := func(what string, f api.Form) {
		t.Helper()
		if e, err := enc.New(f); e != nil || err != api.ErrTokens {
			t.Errorf("P18.1: New of %s = %v, %v", what, e, err)
		}
	}
	refused("nothing", api.Form{})
	for i := range whole.Tokens {
		f := whole
		f.Tokens = whole.Tokens[:i]
		refused("the first tokens", f)
		f.Tokens = slices.Delete(slices.Clone(whole.Tokens), i, i+1)
		refused("all tokens but one", f)
		for _, n := range []int{math.MinInt, -1, math.MaxInt} {
			refused("a Pair that is none", changed(whole, i, func(t *api.Token) { t.Pair = n }))
			refused("an Op that is none", changed(whole, i, func(t *api.Token) { t.Op = api.TokenOp(n) }))
		}
		refused("a name that is none", changed(whole, i, func(t *api.Token) { t.Name = "" }))
	}
	for _, n := range []int{math.MinInt, -1, math.MaxInt} {
		for what, f := range map[string]api.Form{
			"an order that is none":   {Order: api.Endian(n), Schema: 7, Version: 1, Head: whole.Head, Tokens: whole.Tokens},
			"a schema that is none":   {Schema: n, Version: 1, Head: whole.Head, Tokens: whole.Tokens},
			"a version that is none":  {Schema: 7, Version: n, Head: whole.Head, Tokens: whole.Tokens},
			"a header of no size":     {Schema: 7, Version: 1, Head: api.Head{Size: n}, Tokens: whole.Tokens},
			"a block that is none":    changed(whole, 0, func(t *api.Token) { t.Block = n }),
			"a full that is none":     changed(whole, 0, func(t *api.Token) { t.Full = n }),
			"a field beside its room": changed(whole, placeOf(whole, "b"), func(t *api.Token) { t.Offset = n }),
			"a group of no size":      changed(whole, placeOf(whole, "g"), func(t *api.Token) { t.Size = n }),
			"data of no size":         changed(whole, placeOf(whole, "d"), func(t *api.Token) { t.Size = n }),
		} {
			refused(what, f)
		}
	}
	newTwin(t, whole)
}

// P18.1: forms by chance with something otherwise: New refuses just those that ir.Check refuses.
func TestNewByChance(t *testing.T) {
	forms, none := 0, 0
	for seed := range int64(2000) {
		r := newDice(seed)
		f := r.turned(r.form())
		must, _ := ir.Check(f)
		e, err := enc.New(f)
		if err != must || (e == nil) != (err != ok) {
			t.Fatalf("P18.1: seed %d: New = %v, %v, not %v\n%+v", seed, e, err, must, f)
		}
		if err != ok {
			none++
			continue
		}
		forms++
		newTwin(t, f).row(r, 10)
	}
	if forms < 100 || none < 100 {
		t.Errorf("%d forms, %d that are none", forms, none)
	}
}

// every is a call of each Kind and of Kinds that are none, with names that are there and that aren't.
func every() []api.Call {
	var out []api.Call
	for _, kind := range []api.CallKind{math.MinInt, -1, api.CallField, api.CallGroup, api.CallNext, api.CallData, 4, 5, 256, math.MaxInt} {
		for _, name := range []string{"", "a", "b", "x", "g", "d", "M", "no"} {
			out = append(out, api.Call{Kind: kind, Name: name}, api.Call{Kind: kind, Name: name, Words: []uint64{1}, Count: 1, Text: "t"}, api.Call{Kind: kind, Name: name, Words: []uint64{256}, Count: -1})
		}
	}
	return out
}

// P18.3, P18.5: ahead of any Wrap, and behind Wraps that are refused, no message is begun.
func TestNoMessage(t *testing.T) {
	w := newTwin(t, made(t, chapter))
	for _, c := range every() {
		w.refuse(c, api.ErrWrap)
	}
	w.must(api.ErrBuffer, w.wrap(w.buffer(20), 21), "Wrap")
	w.must(api.ErrShort, w.wrap(w.buffer(10), 0), "Wrap")
	for _, c := range every() {
		w.refuse(c, api.ErrWrap)
	}
	want(t, "End", w.e.End(), 0)
	want(t, "Done", w.e.Done(), false)
	// Also of a message that is whole as soon as it begins.
	w = newTwin(t, made(t, "a:uint8"))
	want(t, "Done", w.e.Done(), false)
	w.must(ok, w.wrap(w.buffer(9), 0), "Wrap")
	want(t, "Done", w.e.Done(), true)
}

// The machine and the cursor that an encoder embeds are there from the beginning on.
func TestEmbedded(t *testing.T) {
	e := begin(t, made(t, chapter))
	want(t, "Inside", e.Inside(), 0)
	want(t, "Left", len(e.Left()), 0)
	want(t, "Copy", e.Copy() != nil, true)
	want(t, "At, Start, Room", [3]int{e.At(), e.Start(), e.Room()}, [3]int{})
	want(t, "Wrap", e.Wrap(filled(20), 2), ok)
	want(t, "Group", e.Group("g", 2), ok)
	want(t, "Next", e.Next(), ok)
	want(t, "Inside", e.Inside(), placeOf(made(t, chapter), "g"))
	want(t, "Left", slices.Equal(e.Left(), []int{1}), true)
	want(t, "At, Start, Room", [3]int{e.At(), e.Start(), e.Room()}, [3]int{17, 2, 3})
}

// P18.1: the form is copied: what becomes of it behind New is nothing to the encoder.
func TestFormIsCopied(t *testing.T) {
	said := "a:uint8 k! b:(int16,.,<uint8>,=char*2) g{16 x:uint8*3 h{8 y:int64 } e$16 } d$32 +4"
	f := made(t, said)
	f.Tokens = append(slices.Clone(f.Tokens), api.Token{Name: "spare"})[:len(f.Tokens)]
	for i := range f.Tokens {
		if len(f.Tokens[i].Const) == 0 {
			f.Tokens[i].Const = make([]uint64, 0, 3)
		}
	}
	e := begin(t, f)
	want(t, "the token behind the form", f.Tokens[:len(f.Tokens)+1][len(f.Tokens)].Name, "spare")
	must := made(t, said)
	for i, u := range f.Tokens {
		v := must.Tokens[i]
		if !slices.Equal(u.Const, v.Const) || u.Name != v.Name || u.Pair != v.Pair || u.Offset != v.Offset || u.Size != v.Size {
			t.Fatalf("P18.1: New has changed the token %d: %+v, not %+v", i, u, v)
		}
	}
	for i := range f.Tokens {
		words := f.Tokens[i].Const[:cap(f.Tokens[i].Const)]
		for k := range words {
			words[k] = 77
		}
		f.Tokens[i] = api.Token{Op: api.Choice, Name: "gone", Block: 9, Full: 9, Size: 9, Offset: 9}
	}
	w := &twin{t: t, e: e, m: newSecond(must)}
	w.must(ok, w.wrap(w.buffer(80), 3), "Wrap")
	w.all(field("b", 1, 2), field("a", 3), group("g", 1), next(), field("x", 4, 5, 6), group("h", 1), next(), field("y", 7), data("e", "eee"), data("d", "ddd"))
	w.refuse(field("k", 1), api.ErrOrder)
	want(t, "Done", e.Done(), true)
}

// P18.2: buffers of just the bytes that are wanted and of one less, at all places.
func TestWrap(t *testing.T) {
	for _, said := range []string{chapter, "", "+3", ". . +200", "d$8", "a:uint64*20"} {
		f := made(t, said)
		wants := f.Head.Size + f.Tokens[0].Block
		for size := range wants + 5 {
			for at := -2; at < size+3; at++ {
				w := newTwin(t, f)
				got := w.wrap(w.buffer(size), at)
				must := ok
				switch {
				case at < 0, at > size:
					must = api.ErrBuffer
				case size-at < wants:
					must = api.ErrShort
				}
				if got != must {
					t.Fatalf("P18.2: %q: Wrap of %d bytes at %d = %v, not %v", said, size, at, got, must)
				}
				if got == ok {
					want(t, "P18.5: End", w.e.End(), at+wants)
				}
			}
		}
	}
}

// P18.2: places far outside, and buffers that are nil or empty.
func TestWrapOutside(t *testing.T) {
	e := begin(t, made(t, chapter))
	spare := filled(20)
	for _, b := range [][]byte{nil, {}, spare[:0], spare[:11], spare} {
		for _, at := range []int{math.MinInt, math.MinInt + 1, math.MinInt32, -1, 21, 1 << 20, math.MaxInt32, math.MaxInt - 11, math.MaxInt - 8, math.MaxInt - 1, math.MaxInt} {
			want(t, "Wrap outside", e.Wrap(b, at), api.ErrBuffer)
		}
	}
	for _, b := range [][]byte{nil, {}, spare[:0], spare[:10]} {
		want(t, "Wrap of too few", e.Wrap(b, 0), api.ErrShort)
		want(t, "Wrap at the end", e.Wrap(b, len(b)), api.ErrShort)
		want(t, "Wrap behind the end", e.Wrap(b, len(b)+1), api.ErrBuffer)
	}
	want(t, "bytes", string(spare), string(filled(20)))
	want(t, "End", e.End(), 0)
	// Room behind the length is none.
	want(t, "Wrap of just enough", e.Wrap(spare[:11], 0), ok)
	want(t, "Group", e.Group("g", 0), api.ErrShort)
	want(t, "bytes", string(spare[8:]), string(filled(12)))
}

// P18.2: headers of all kinds: any order of their numbers, bytes between them, all types, both orders of bytes.
func TestHeaders(t *testing.T) {
	for _, h := range []api.Head{
		{Size: 4, Block: spot(api.Uint8, 3), Template: spot(api.Uint8, 2), Schema: spot(api.Uint8, 1), Version: spot(api.Uint8, 0)},
		{Size: 16, Block: spot(api.Uint32, 12), Template: spot(api.Uint32, 4), Schema: spot(api.Uint32, 0), Version: spot(api.Uint32, 8)},
		{Size: 20, Block: spot(api.Uint16, 1), Template: spot(api.Uint32, 7), Schema: spot(api.Uint8, 4), Version: spot(api.Uint16, 16)},
		{Size: 65535, Block: spot(api.Uint16, 65533), Template: spot(api.Uint8, 0), Schema: spot(api.Uint32, 30000), Version: spot(api.Uint8, 9)},
	} {
		f := made(t, chapter+" +9")
		f.Head, f.Schema, f.Version = h, 254, 253
		for _, g := range []api.Form{f, big(f)} {
			w := wrapped(t, g, h.Size+10, 3)
			w.all(field("a", 1), field("b", 2), group("g", 0), data("d", ""))
		}
	}
	// All numbers at their greatest.
	f := made(t, "a:uint8")
	f.Schema, f.Version = api.MaxID-1, api.MaxVersion
	f = changed(f, 0, func(t *api.Token) { t.ID, t.Block, t.Full = api.MaxID-1, 65534, 65534 })
	for _, g := range []api.Form{f, big(f)} {
		w := wrapped(t, g, 8+65534, 0)
		want(t, "the header", string(w.memories[0].buffer()[:8]) == "\xfe\xff\xfe\xff\xfe\xff\xfe\xff", g.Order == api.Little)
		w.all(field("a", 1))
	}
}

// P18.2: the heaviest header and block that a form may have are taken.
func TestHeaviestWrap(t *testing.T) {
	f := made(t, "a:uint8")
	f.Head = api.Head{Size: 65535, Block: spot(api.Uint32, 0), Template: spot(api.Uint8, 4), Schema: spot(api.Uint8, 5), Version: spot(api.Uint8, 6)}
	for _, block := range []int{1, 65535} {
		g := changed(f, 0, func(t *api.Token) { t.Block, t.Full = block, 65535 })
		w := newTwin(t, g)
		w.must(api.ErrShort, w.wrap(w.buffer(65535+block-1), 0), "Wrap")
		w.must(ok, w.wrap(w.buffer(65535+block), 0), "Wrap")
		w.all(field("a", 5))
	}
}

// P18.2: a Wrap amid a message: one that is taken gives it up, one that is refused doesn't.
func TestWrapAgain(t *testing.T) {
	f := made(t, chapter)
	calls := []api.Call{field("a", 1), group("g", 2), next(), field("x", 2), next(), field("x", 3), data("d", "hi")}
	for n := range len(calls) + 1 {
		w := wrapped(t, f, 60, 2)
		w.all(calls[:n]...)
		w.must(api.ErrShort, w.wrap(w.buffer(10), 0), "Wrap")
		w.must(api.ErrBuffer, w.wrap(w.buffer(60), -1), "Wrap")
		w.must(api.ErrBuffer, w.wrap(w.memories[0], 61), "Wrap")
		w.must(api.ErrShort, w.wrap(w.memories[0], 50), "Wrap")
		w.all(calls[n:]...)
		want(t, "Done", w.e.Done(), true)

		w = wrapped(t, f, 60, 2)
		w.all(calls[:n]...)
		w.must(ok, w.wrap(w.memories[0], 25), "Wrap")
		want(t, "End", w.e.End(), 36)
		w.refuse(next(), api.ErrOrder)
		w.all(calls...)
		w.must(ok, w.wrap(w.buffer(30), 0), "Wrap")
		w.all(calls...)
	}
}

// P18.2: messages one behind the other in one buffer: none touches the ones ahead.
func TestManyMessages(t *testing.T) {
	w := newTwin(t, made(t, chapter))
	y := w.buffer(200)
	at := 5
	for i := range 9 {
		w.must(ok, w.wrap(y, at), "Wrap")
		w.all(field("a", uint64(i)), field("b", uint64(i)), group("g", i%3))
		for range i % 3 {
			w.all(next(), field("x", uint64(i)))
		}
		w.all(data("d", strings.Repeat("z", i%4)))
		at = w.e.End()
	}
}
