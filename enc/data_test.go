package enc_test

import (
	"bytes"
	"strings"
	"testing"

	"stencil/api"
)

// P18.3: data of no bytes, of just as many as its length may tell and of one more, in both orders.
func TestLengths(t *testing.T) {
	for bits, most := range map[string]int{"8": 254, "16": 65534} {
		f := made(t, "d$"+bits+" e$8")
		for _, g := range []api.Form{f, big(f)} {
			for _, n := range []int{0, 1, 2, 253, 254, 255, 256, 65533, 65534} {
				if n > most {
					continue
				}
				w := wrapped(t, g, 66000, 3)
				w.refuse(data("d", strings.Repeat("x", most+1)), api.ErrData)
				w.refuse(data("d", strings.Repeat("x", most+2)), api.ErrData)
				w.refuse(data("e", ""), api.ErrOrder)
				w.all(data("d", strings.Repeat("y", n)))
				w.refuse(data("d", ""), api.ErrOrder)
				w.all(data("e", "\x00\xff\n"))
				want(t, "Done", w.e.Done(), true)
			}
		}
	}
}

// P18.3: the bytes of data stand just as they are, behind the length in the form's order.
func TestDataBytes(t *testing.T) {
	for bits, must := range map[string][2]string{"8": {"\x03", "\x03"}, "16": {"\x03\x00", "\x00\x03"}, "32": {"\x03\x00\x00\x00", "\x00\x00\x00\x03"}} {
		f := made(t, "d$"+bits)
		for i, g := range []api.Form{f, big(f)} {
			e, b := begin(t, g), filled(20)
			want(t, "Wrap", e.Wrap(b, 1), ok)
			want(t, "Data", e.Data("d", "\x00é"), ok)
			want(t, "bytes", string(b[9:]), must[i]+"\x00é"+string(filled(8-len(must[i]))))
			want(t, "End", e.End(), 12+len(must[i]))
		}
	}
}

// P18.3: names of data that may not come, whatever their text.
func TestDataNames(t *testing.T) {
	w := wrapped(t, made(t, "a:uint8 g{8 e$8 } d$8 c$8"), 60, 1)
	refused := func(names ...string) {
		t.Helper()
		for _, name := range append(names, "", "a", "g", "M", "no") {
			for _, n := range []int{0, 1, 255, 70000} {
				w.refuse(data(name, strings.Repeat("t", n)), api.ErrOrder)
			}
		}
	}
	refused("c", "d", "e")
	w.all(group("g", 1))
	refused("c", "d", "e")
	w.all(next())
	refused("c", "d")
	w.all(data("e", "1"))
	refused("c", "e")
	w.all(data("d", "2"))
	refused("d", "e")
	w.all(data("c", "3"))
	refused("c", "d", "e")
}

// P18.3: data that weighs, with what is ahead of it, just as much as a message may, and one byte more; and which error comes first.
func TestHeavyData(t *testing.T) {
	long := strings.Repeat("z", api.MaxMessage)
	for _, x := range []struct {
		said  string
		ahead int // what is written, or weighs, ahead of the bytes of d
		bytes int // what is there of it
		calls []api.Call
	}{
		{"d$32", 12, 12, nil},
		{"a:uint8 +999 d$32", 12 + 1000, 13, nil},
		{"g{16 x:uint8 +9 } d$32", 12 + 4 + 20, 12 + 4 + 2, []api.Call{group("g", 2), next(), next()}},
		{"c$16 d$32", 12 + 2 + 5, 12 + 2 + 5, []api.Call{data("c", "12345")}},
	} {
		most := api.MaxMessage - x.ahead
		w := wrapped(t, made(t, x.said), x.bytes+most+5, 1)
		w.all(x.calls...)
		w.refuse(data("d", long), api.ErrLong)
		w.refuse(data("d", long[:most+1]), api.ErrLong)
		w.all(data("d", long[:most]))
		want(t, "End", w.e.End(), 1+x.bytes+most)
		// Where there's no room either, the weight comes first; with one byte less it is the room.
		w = wrapped(t, made(t, x.said), x.bytes+most, 1)
		w.all(x.calls...)
		w.refuse(data("d", long[:most+1]), api.ErrLong)
		w.refuse(data("d", long[:most]), api.ErrShort)
		w.all(data("d", long[:most-1]))
	}
	// The length's own bytes weigh too.
	for left, must := range map[int]api.Errno{2: ok, 1: api.ErrLong, 0: api.ErrLong} {
		w := wrapped(t, made(t, "d$32 e$16"), api.MaxMessage+20, 0)
		w.all(data("d", long[:api.MaxMessage-12-left]))
		w.must(must, w.do(data("e", "")), "Data e")
	}
	// Too long for its length, too heavy and no room: the first of these; and behind all the order.
	w := wrapped(t, made(t, "g{32 +65000 } d$16"), 30, 0)
	w.refuse(data("d", long), api.ErrOrder)
	w.all(group("g", 16), next(), next(), next(), next(), next(), next(), next(), next(), next(), next(), next(), next(), next(), next(), next())
	w.refuse(data("d", long), api.ErrOrder)
	w.all(next())
	w.refuse(data("d", long[:65535]), api.ErrData)
	w.refuse(data("d", long[:65534]), api.ErrLong)
	w.refuse(data("d", long[:8000]), api.ErrShort)
	w.all(data("d", "1234567890"))
}

// P18.3: what a message weighs begins anew with a Wrap that is taken, and stays with one that is refused.
func TestWeightOfEachMessage(t *testing.T) {
	long := strings.Repeat("z", api.MaxMessage)
	w := newTwin(t, made(t, "d$32 e$8"))
	y := w.buffer(api.MaxMessage + 100)
	for range 3 {
		w.must(ok, w.wrap(y, 2), "Wrap")
		w.must(api.ErrShort, w.wrap(y, len(y.buffer())-7), "Wrap")
		w.all(data("d", long[:api.MaxMessage-13-4]))
		w.must(api.ErrShort, w.wrap(y, len(y.buffer())-7), "Wrap")
		w.refuse(data("e", "12345"), api.ErrLong)
		w.all(data("e", "1234"))
	}
	if !bytes.HasPrefix(y.buffer()[2:], []byte("\x00\x00\x03\x00\x07\x00\x01\x00\xef\xff\x0f\x00zzz")) {
		t.Errorf("the message begins with % X", y.buffer()[2:17])
	}
}
