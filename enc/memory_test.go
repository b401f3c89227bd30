package enc_test

import (
	"slices"
	"testing"

	"stencil/api"
)

// P18.6: fields that aren't set, and bytes beside the leaves of those that are, stay as the buffer had them.
func TestUnsetStays(t *testing.T) {
	e, b := begin(t, made(t, "a:uint16 . v:(.,uint8,.,uint8) z:uint8 . g{8 . x:uint8 y:uint8 . }")), make([]byte, 40)
	for i := range b {
		b[i] = byte(100 + i)
	}
	want(t, "Wrap", e.Wrap(b, 3), ok)
	want(t, "Field", e.Field("v", 1, 2), ok)
	want(t, "Group", e.Group("g", 2), ok)
	want(t, "Next", e.Next(), ok)
	want(t, "Field", e.Field("y", 3), ok)
	want(t, "Next", e.Next(), ok)
	want(t, "Field", e.Field("x", 4), ok)
	must := []byte{100, 101, 102, 9, 0, 3, 0, 7, 0, 1, 0, 111, 112, 113, 114, 1, 116, 2, 118, 119, 4, 0, 2, 123, 124, 3, 126, 127, 4, 129, 130}
	for i := range 40 - len(must) {
		must = append(must, byte(131+i))
	}
	if !slices.Equal(b, must) {
		t.Errorf("P18.6: bytes\n%d, not\n%d", b, must)
	}
	want(t, "End", e.End(), 31)
}

// P18.6: what the caller changes meanwhile stays as he left it: ahead of the message, in its header, in fields that are set later or not at all, in what is claimed later, and behind the end.
func TestCallerChanges(t *testing.T) {
	f := made(t, "a:uint8 b:uint16 . g{8 x:uint8 . } d$8")
	calls := []api.Call{field("a", 1), field("a", 2), group("g", 2), next(), next(), field("x", 3), data("d", "hi")}
	for n := range len(calls) + 1 {
		w := wrapped(t, f, 50, 4)
		w.all(calls[:n]...)
		for i := range 50 {
			w.writes(w.memories[0], i, byte(3*i+n))
		}
		w.all(calls[n:]...)
		want(t, "End", w.e.End(), 4+12+3+4+3)
		want(t, "Done", w.e.Done(), true)
	}
}

// P18.6: the buffer is the caller's own list, not a copy; what he puts behind it or cuts off makes no difference.
func TestCallersList(t *testing.T) {
	e := begin(t, made(t, chapter))
	whole := make([]byte, 20, 40)
	want(t, "Wrap", e.Wrap(whole, 0), ok)
	whole = append(whole, 9, 9, 9)
	want(t, "Group", e.Group("g", 254), ok)
	whole = whole[:5]
	for range 6 {
		want(t, "Next", e.Next(), ok)
	}
	want(t, "Next behind the buffer", e.Next(), api.ErrShort)
	want(t, "Field", e.Field("x", 7), ok)
	want(t, "bytes", string(whole[:23]), "\x03\x00\x03\x00\x07\x00\x01\x00\x00\x00\x00\x01\x00\xfe\x00\x00\x00\x00\x00\x07\x09\x09\x09")
}

// P18.6: a buffer that was given up by another Wrap isn't touched any more.
func TestBufferGivenUp(t *testing.T) {
	e := begin(t, made(t, chapter))
	first, second := filled(30), filled(30)
	want(t, "Wrap", e.Wrap(first, 0), ok)
	want(t, "Field", e.Field("a", 1), ok)
	want(t, "Wrap", e.Wrap(second, 5), ok)
	was := string(first)
	want(t, "Field", e.Field("a", 2), ok)
	want(t, "Group", e.Group("g", 1), ok)
	want(t, "Next", e.Next(), ok)
	want(t, "Field", e.Field("x", 3), ok)
	want(t, "Data", e.Data("d", "hi"), ok)
	want(t, "the first buffer", string(first), was)
	want(t, "the second buffer", string(second[13:25]), "\x02\xff\xff\x01\x00\x01\x03\x02hi\xff\xff")
}

// P18.6: words that are handed in are neither changed, nor what lies behind them, nor kept.
func TestWordsStay(t *testing.T) {
	e, b := begin(t, made(t, "v:uint8*3 w:uint8")), filled(20)
	want(t, "Wrap", e.Wrap(b, 0), ok)
	words := []uint64{1, 2, 3, 4, 5}
	want(t, "Field", e.Field("v", words[:3]...), ok)
	want(t, "Do", e.Do(api.Call{Name: "v", Words: words[1:4]}), ok)
	want(t, "Field too short", e.Field("v", words[:2]...), api.ErrWords)
	want(t, "Field too long", e.Field("v", words[:4]...), api.ErrWords)
	want(t, "words", slices.Equal(words, []uint64{1, 2, 3, 4, 5}), true)
	for i := range words {
		words[i] = 99
	}
	want(t, "Field", e.Field("w", 7), ok)
	want(t, "bytes", string(b[8:13]), "\x02\x03\x04\x07\xff")
}

// Two encoders of one form, and two messages of one encoder, know nothing of each other.
func TestTwoEncoders(t *testing.T) {
	f := made(t, chapter)
	c, d := wrapped(t, f, 40, 1), wrapped(t, f, 40, 2)
	c.all(group("g", 2), next())
	d.all(field("a", 1), field("b", 2))
	c.all(field("x", 3), next())
	d.all(group("g", 0))
	c.all(field("x", 4), data("d", "cc"))
	d.refuse(next(), api.ErrOrder)
	d.all(data("d", "dd"))
}

// P18.6: two encoders may write into one buffer, each its own message.
func TestOneBuffer(t *testing.T) {
	b := filled(40)
	c, d := begin(t, made(t, chapter)), begin(t, made(t, chapter))
	want(t, "Wrap", c.Wrap(b, 20), ok)
	want(t, "Wrap", d.Wrap(b, 0), ok)
	want(t, "Field", c.Field("a", 1), ok)
	want(t, "Field", d.Field("a", 2), ok)
	want(t, "Group", d.Group("g", 0), ok)
	want(t, "Group", c.Group("g", 0), ok)
	must := "\x03\x00\x03\x00\x07\x00\x01\x00?\xff\xff\x01\x00\x00"
	want(t, "bytes", string(b), must[:8]+"\x02"+must[9:]+string(filled(6))+must[:8]+"\x01"+must[9:]+string(filled(6)))
}
