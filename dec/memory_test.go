package dec_test

import (
	"slices"
	"strings"
	"testing"

	"stencil/api"
)

// P19.7: words and texts that were told stay as they are when the buffer is written over, when the same call comes again, and when other messages are read.
func TestToldStays(t *testing.T) {
	f := made(t, "a:uint8*3 b@1:uint8*3~9 d$8 e@1$8")
	b := written(t, f, 0, set("a", 1, 2, 3), text("d", "hello"))
	d := begin(t, f, 1)
	want(t, "Wrap", d.Wrap(b, 0), ok)
	first, _ := d.Field("a")
	again, _ := d.Field("a")
	null, _ := d.Field("b")
	nullAgain, _ := d.Field("b")
	s, _ := d.Data("d")
	none, _ := d.Data("e")
	for i := range b {
		b[i] = 0xAA
	}
	want(t, "the text", s, "hello")
	want(t, "the text that isn't there", none, "")
	for _, words := range [][]uint64{first, again} {
		want(t, "the words", slices.Equal(words, []uint64{1, 2, 3}), true)
	}
	// No two answers share memory, room behind them too.
	for _, words := range [][]uint64{again, nullAgain} {
		words = words[:cap(words)]
		for i := range words {
			words[i] = 55
		}
	}
	want(t, "the words", slices.Equal(first, []uint64{1, 2, 3}), true)
	want(t, "the null words", slices.Equal(null, []uint64{9, 9, 9}), true)
	want(t, "Wrap", d.Wrap(written(t, f, 0, set("a", 4, 5, 6), text("d", "")), 0), ok)
	wantField(t, d, "b", 9, 9, 9)
	wantField(t, d, "a", 4, 5, 6)
	want(t, "the words", slices.Equal(first, []uint64{1, 2, 3}), true)
	want(t, "the text", s, "hello")
}

// P19.7: what the caller writes is seen by later calls: fields, and what has not been gone through.
func TestWritesSeen(t *testing.T) {
	b := []byte(sample)
	d := begin(t, made(t, chapter), 2)
	want(t, "Wrap", d.Wrap(b, 0), ok)
	wantField(t, d, "a", 9)
	b[8] = 10
	wantField(t, d, "a", 10)
	// Two entries, and then a text of two bytes, of which one is there.
	b[13] = 2
	copy(b[15:], "\x06\x02y")
	wantGroup(t, d, "g", 2, ok)
	want(t, "Next", d.Next(), ok)
	wantField(t, d, "x", 4)
	b[14] = 5
	wantField(t, d, "x", 5)
	want(t, "Next", d.Next(), ok)
	wantField(t, d, "x", 6)
	wantData(t, d, "d", "", api.ErrShort)
	b[16] = 1
	wantData(t, d, "d", "y", ok)
	want(t, "End", d.End(), 18)
}

// P19.7: block lengths, counts and the version are those that stood there when they were gone through.
func TestWritesNotSeen(t *testing.T) {
	f := made(t, chapter)
	b := written(t, f, 1, set("a", 9), set("b", 8), count("g", 2), next(), set("x", 4), next(), set("x", 5), text("d", "hi"))
	w := wrapped(t, f, 2, 0, b)
	y := w.memories[0]
	over := func(from, to int) {
		for i := from; i < to; i++ {
			w.writes(y, i, 255)
		}
	}
	// The header: the schema, the template, the version and the block length are gone.
	over(0, 8)
	want(t, "Acting", w.d.Acting(), 1)
	want(t, "End", w.d.End(), 11)
	w.tells("a", 9)
	w.tells("c", 65535)
	w.counts("g", 2)
	// The dimension.
	over(8, 14)
	w.all(next())
	w.tells("x", 4)
	over(14, 15)
	w.tells("x", 255)
	w.all(next())
	w.tells("x", 5)
	want(t, "End", w.d.End(), 16)
	w.refuse(next(), api.ErrOrder)
	w.says("d", "hi")
	over(16, 19)
	w.says("n", "")
	want(t, "Acting", w.d.Acting(), 1)
	want(t, "Done", w.d.Done(), true)
	w.must(ok, w.skip(), "Skip")
	want(t, "End", w.d.End(), 19)
	// Skip goes by them too, behind the group.
	w = wrapped(t, f, 0, 0, b)
	w.counts("g", 2)
	for i := range 14 {
		w.writes(w.memories[0], i, 255)
	}
	w.must(ok, w.skip(), "Skip")
	want(t, "End", w.d.End(), 19)
}

// P19.7: what the caller writes at every place of a message, ahead of each call: the two decoders see the same.
func TestCallerWrites(t *testing.T) {
	f := made(t, sides)
	b := written(t, f, 1, sidesAt(1)...)
	for reader := range 3 {
		calls := known(reader, 1)
		for at := range b {
			for n := 0; n <= len(calls); n += 3 {
				w := wrapped(t, f, reader, 4, b)
				w.all(calls[:n]...)
				w.writes(w.memories[0], 4+at, b[at]+1)
				// Ahead of the message he may write what he likes.
				for i := range 4 {
					w.writes(w.memories[0], i, byte(at+i))
				}
				for _, c := range calls[n:] {
					w.do(c)
				}
				w.skip()
			}
		}
	}
}

// P19.7: nothing ahead of Wrap's place is read: messages with unlike bytes there, and about the buffer, are told alike. (Each twin's calls ask the same of what lies outside of the buffer.)
func TestAhead(t *testing.T) {
	f := made(t, sides)
	b := written(t, f, 2, sidesAt(2)...)
	for _, at := range []int{1, 7, 8, 9, 40} {
		for _, fill := range []string{"\x00", "\xff", string(b)} {
			front := []byte(strings.Repeat(fill, 40))[:at]
			w := newTwin(t, f, 1)
			y := w.buffer(0, append(slices.Clone(front), b...))
			w.must(ok, w.wrap(y, at), "Wrap")
			w.all(known(1, 2)...)
			w.must(ok, w.skip(), "Skip")
			want(t, "End", w.d.End(), at+len(b))
		}
	}
}

// P19.7: a buffer that was given up by another Wrap isn't looked at any more; one of a Wrap that was refused neither.
func TestBufferGivenUp(t *testing.T) {
	d := begin(t, made(t, chapter), 2)
	first, second, third := []byte(sample), []byte(newer), []byte(sample[:10])
	want(t, "Wrap", d.Wrap(first, 0), ok)
	wantField(t, d, "a", 9)
	want(t, "Wrap", d.Wrap(second, 0), ok)
	want(t, "Wrap", d.Wrap(third, 0), api.ErrShort)
	for i := range first {
		first[i] = 255
	}
	for i := range third {
		third[i] = 255
	}
	wantField(t, d, "c", 1)
	wantSkip(t, d, 19, ok)
}

// Two decoders of one form, over one buffer, know nothing of each other.
func TestTwoDecoders(t *testing.T) {
	f := made(t, chapter)
	b := []byte(sample + newer)
	c, d := begin(t, f, 2), begin(t, f, 1)
	want(t, "Wrap", c.Wrap(b, 0), ok)
	want(t, "Wrap", d.Wrap(b, 18), ok)
	wantGroup(t, c, "g", 1, ok)
	wantField(t, d, "a", 9)
	wantGroup(t, d, "g", 0, ok)
	want(t, "Next", c.Next(), ok)
	want(t, "Next", d.Next(), api.ErrOrder)
	wantField(t, c, "x", 4)
	wantSkip(t, d, 37, ok)
	wantData(t, c, "d", "hi", ok)
	wantData(t, c, "n", "", ok)
	want(t, "the buffer", string(b), sample+newer)
}
