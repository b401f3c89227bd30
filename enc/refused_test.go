package enc_test

import (
	"math"
	"strings"
	"testing"

	"stencil/api"
)

// P18.3: Kinds that are none are refused at every place of a message, whatever else they bring.
func TestKinds(t *testing.T) {
	w := wrapped(t, made(t, chapter), 40, 2)
	ask := func() {
		t.Helper()
		for _, kind := range []api.CallKind{math.MinInt, math.MinInt32, -2, -1, 4, 5, 255, 256, math.MaxInt32, math.MaxInt} {
			for _, name := range []string{"a", "g", "x", "d", ""} {
				w.refuse(api.Call{Kind: kind, Name: name, Words: []uint64{1}, Count: 1, Text: "t"}, api.ErrOrder)
			}
		}
	}
	ask()
	for _, c := range []api.Call{field("a", 1), group("g", 1), next(), field("x", 1), data("d", "t")} {
		w.all(c)
		ask()
	}
}

// P18.3: what of a call its Kind doesn't have isn't looked at.
func TestClutter(t *testing.T) {
	e, b := begin(t, made(t, chapter)), filled(30)
	want(t, "Wrap", e.Wrap(b, 0), ok)
	long := strings.Repeat("t", 300)
	many := []uint64{1 << 60, 2, 3}
	want(t, "field", e.Do(api.Call{Kind: api.CallField, Name: "a", Words: []uint64{5}, Count: -7, Text: long}), ok)
	want(t, "group", e.Do(api.Call{Kind: api.CallGroup, Name: "g", Words: many, Count: 1, Text: long}), ok)
	want(t, "next", e.Do(api.Call{Kind: api.CallNext, Name: "no", Words: many, Count: math.MaxInt, Text: long}), ok)
	want(t, "data", e.Do(api.Call{Kind: api.CallData, Name: "d", Words: many, Count: math.MinInt, Text: "hi"}), ok)
	want(t, "bytes", string(b[8:]), "\x05\xff\xff\x01\x00\x01\xff\x02hi"+string(filled(12)))
}

// P18.3: where several errors hold the answer is the first one.
func TestFirstError(t *testing.T) {
	long := strings.Repeat("t", api.MaxMessage)
	full := "a:uint8 b:uint16*2 g{32 +65000 } d$8"
	for _, x := range []struct {
		said  string
		size  int
		calls []api.Call
		call  api.Call
		err   api.Errno
	}{
		// A call that may not come, with all else that is wrong.
		{full, 13, nil, field("no", 1<<50, 1), api.ErrOrder},
		{full, 13, nil, group("d", -1), api.ErrOrder},
		{full, 13, nil, data("d", long), api.ErrOrder},
		{full, 13, nil, next(), api.ErrOrder},
		// The number of the words ahead of the words.
		{full, 13, nil, field("b", 1<<50), api.ErrWords},
		{full, 13, nil, field("b", 1<<50, 1, 1), api.ErrWords},
		{full, 13, nil, field("b", 1<<50, 1), api.ErrFit},
		{full, 13, nil, field("b", 1, 1<<50), api.ErrFit},
		// A count that doesn't fit, too many entries, too heavy, no room.
		{full, 13, nil, group("g", math.MinInt), api.ErrCount},
		{full, 13, nil, group("g", math.MaxInt), api.ErrCount},
		{full, 13, nil, group("g", 1<<32-1), api.ErrCount},
		{full, 13, nil, group("g", 1<<32-2), api.ErrEntries},
		{full, 13, nil, group("g", api.MaxEntries+1), api.ErrEntries},
		{full, 13, nil, group("g", api.MaxEntries), api.ErrLong},
		{full, 13, nil, group("g", 17), api.ErrLong},
		{full, 13, nil, group("g", 16), api.ErrShort},
		{full, 13, nil, group("g", 0), api.ErrShort},
		{full, 19, nil, group("g", 16), ok},
		// Data too long, too heavy, no room.
		{full, 19, []api.Call{group("g", 0)}, data("d", long), api.ErrData},
		{full, 19, []api.Call{group("g", 0)}, data("d", long[:255]), api.ErrData},
		{full, 19, []api.Call{group("g", 0)}, data("d", long[:254]), api.ErrShort},
		{full, 19, []api.Call{group("g", 0)}, data("d", ""), api.ErrShort},
		{full, 20, []api.Call{group("g", 0)}, data("d", ""), ok},
		{"d$32 e$8", 8, nil, data("d", long), api.ErrLong},
		{"d$32 e$8", 8, nil, data("d", long[:api.MaxMessage-11]), api.ErrLong},
		{"d$32 e$8", 8, nil, data("d", long[:api.MaxMessage-12]), api.ErrShort},
		{"d$32 e$8", api.MaxMessage, []api.Call{data("d", long[:api.MaxMessage-12])}, data("e", long[:255]), api.ErrData},
		{"d$32 e$8", api.MaxMessage, []api.Call{data("d", long[:api.MaxMessage-12])}, data("e", ""), api.ErrLong},
	} {
		w := newTwin(t, made(t, x.said))
		w.refuse(x.call, api.ErrWrap)
		w.must(ok, w.wrap(w.buffer(x.size), 0), "Wrap")
		w.all(x.calls...)
		w.must(x.err, w.do(x.call), x.said+": "+short(x.call))
	}
}

// P0.5: a call that is refused leaves all as it was: behind every call of a message every other call is tried, and the message goes on as if nothing had been.
func TestRefusedChangesNothing(t *testing.T) {
	f := made(t, "a:uint8 b:(int16,.,uint8*2) k! g{8 x:uint8 h{16 y:int8 } e$8 } i{8 } d$16")
	calls := []api.Call{field("a", 1), field("b", 2, 3, 4), group("g", 2), next(), field("x", 5), group("h", 1), next(), field("y", 6), data("e", "ee"),
		next(), group("h", 0), data("e", ""), group("i", 1), next(), data("d", "end")}
	tried := every()
	for _, name := range []string{"a", "b", "k", "g", "x", "h", "y", "e", "i", "d", "M"} {
		tried = append(tried, field(name), field(name, 1<<40), field(name, 1, 1, 1<<40), group(name, -1), group(name, 70000), data(name, strings.Repeat("r", 70000)), data(name, strings.Repeat("r", 300)))
	}
	w := wrapped(t, f, 80, 3)
	for i, c := range append(calls, next()) {
		for _, other := range tried {
			// Only what is refused for sure: what is taken would be another message.
			if n := *w.m; n.would(other) != ok {
				w.do(other)
			}
		}
		if i < len(calls) {
			w.all(c)
		}
	}
	want(t, "Done", w.e.Done(), true)
	// The same bytes as without all that.
	v := wrapped(t, f, 80, 3)
	v.all(calls...)
	want(t, "bytes", string(w.memories[0].buffer()), string(v.memories[0].buffer()))
}

// would is what a call would be answered, by a second encoder over a copy of its bytes.
func (m *second) would(c api.Call) api.Errno {
	n := *m
	n.bytes = append([]byte(nil), m.bytes...)
	return n.do(c)
}
