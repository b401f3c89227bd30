package dec_test

import (
	"bytes"
	"fmt"
	"slices"
	"strconv"
	"testing"

	"stencil/api"
	"stencil/dec"
)

// margin is how much memory lies ahead of a buffer, and how much room behind it.
const margin = 16

// memory is a buffer with what lies about it, and what must stand there.
type memory struct{ is, must []byte }

func (y *memory) buffer() []byte  { return y.is[margin : len(y.is)-margin] }
func (y *memory) allowed() []byte { return y.must[margin : len(y.must)-margin : len(y.must)-margin] }

// twin is a decoder and a second one that are handed the same calls.
type twin struct {
	t        *testing.T
	d        *dec.Decoder
	m        *second
	memories []*memory
	calls    int
}

// newTwin is one of a form and a reader.
func newTwin(t *testing.T, f api.Form, reader int) *twin {
	t.Helper()
	w := &twin{t: t, d: begin(t, f, reader), m: newSecond(f, reader)}
	w.ask("New")
	return w
}

// wrapped is one whose message begins at a place of a buffer that has these bytes from there on, and none behind them.
func wrapped(t *testing.T, f api.Form, reader, at int, b []byte) *twin {
	t.Helper()
	w := newTwin(t, f, reader)
	w.must(ok, w.wrap(w.buffer(at, b), at), "Wrap")
	return w
}

// buffer is a new one, inside greater memory: so many bytes, and these behind them.
func (w *twin) buffer(at int, b []byte) *memory {
	y := &memory{is: slices.Concat(make([]byte, margin+at), b, make([]byte, margin))}
	for i := range y.is {
		if i < margin+at || i >= margin+at+len(b) {
			y.is[i] = byte(0x81 + (5*i+len(b))%0x70)
		}
	}
	y.must = slices.Clone(y.is)
	w.memories = append(w.memories, y)
	return y
}

// stir makes other bytes of those about the buffers: whoever reads them tells something else than the second decoder.
func (w *twin) stir() {
	for _, y := range w.memories {
		for i := range margin {
			last := len(y.is) - 1 - i
			y.is[i], y.is[last] = y.is[i]*3+byte(w.calls), y.is[last]*5+byte(w.calls)
			y.must[i], y.must[last] = y.is[i], y.is[last]
		}
	}
}

// wrap hands both the buffer, which has room behind its length.
func (w *twin) wrap(y *memory, at int) api.Errno {
	w.t.Helper()
	w.stir()
	what := fmt.Sprintf("P19.2: Wrap of %d bytes at %d", len(y.buffer()), at)
	got, want := w.d.Wrap(y.buffer(), at), w.m.wrap(y.allowed(), at)
	if got != want {
		w.t.Fatalf("%s = %v, not %v", what, got, want)
	}
	w.ask(what)
	return got
}

// writes is the caller, who writes into his buffer.
func (w *twin) writes(y *memory, at int, b byte) { y.buffer()[at], y.allowed()[at] = b, b }

// do hands both a call, and asks that they answer the same, and that no byte is changed. What was told is then written over, room behind it too: nothing of it may be the decoder's.
func (w *twin) do(c api.Call) (api.Told, api.Errno) {
	w.t.Helper()
	w.stir()
	w.calls++
	got, err := w.hand(c)
	want, must := w.m.do(c)
	if err != must || !slices.Equal(got.Words, want.Words) || got.Count != want.Count || got.Text != want.Text {
		w.t.Fatalf("P19.3: call %d, %s = %s, %v, not %s, %v", w.calls, short(c), short(got), err, short(want), must)
	}
	for i := range got.Words[:cap(got.Words)] {
		got.Words[:cap(got.Words)][i] = 0x55
	}
	w.ask(c)
	return want, must
}

// hand carries a call out by Do, every other time by the call of its Kind.
func (w *twin) hand(c api.Call) (api.Told, api.Errno) {
	switch w.calls % 4 {
	case 0:
		return w.d.Do(c)
	case 2:
		return w.d.Do(cluttered(c))
	}
	switch c.Kind {
	case api.CallField:
		words, err := w.d.Field(c.Name)
		return api.Told{Words: words}, err
	case api.CallGroup:
		n, err := w.d.Group(c.Name)
		return api.Told{Count: n}, err
	case api.CallNext:
		return api.Told{}, w.d.Next()
	case api.CallData:
		s, err := w.d.Data(c.Name)
		return api.Told{Text: s}, err
	}
	return w.d.Do(c)
}

// cluttered is a call with all in it that isn't looked at.
func cluttered(c api.Call) api.Call {
	c.Words, c.Count, c.Text = []uint64{1, 2}, -1, "text"
	if c.Kind == api.CallNext {
		c.Name = "g"
	}
	return c
}

// skip asks both to go to the message's end.
func (w *twin) skip() api.Errno {
	w.t.Helper()
	w.stir()
	got, err := w.d.Skip()
	want, must := w.m.skip()
	if got != want || err != must {
		w.t.Fatalf("P19.5: Skip = %d, %v, not %d, %v", got, err, want, must)
	}
	w.ask("Skip")
	return err
}

// all hands both calls that must be taken.
func (w *twin) all(calls ...api.Call) {
	w.t.Helper()
	for i, c := range calls {
		if _, got := w.do(c); got != ok {
			w.t.Fatalf("call %d, %s = %v", i, short(c), got)
		}
	}
}

// tells hands both a call of a field that must be taken, and tell these words.
func (w *twin) tells(name string, words ...uint64) {
	w.t.Helper()
	if told, err := w.do(field(name)); err != ok || !slices.Equal(told.Words, words) {
		w.t.Fatalf("Field(%s) = %d, %v, not %d", name, told.Words, err, words)
	}
}

// counts hands both a call of a group that must be taken, and says must be told a text of data, alike.
func (w *twin) counts(name string, n int) {
	w.t.Helper()
	if told, err := w.do(group(name)); err != ok || told.Count != n {
		w.t.Fatalf("Group(%s) = %d, %v, not %d", name, told.Count, err, n)
	}
}

func (w *twin) says(name, s string) {
	w.t.Helper()
	if told, err := w.do(data(name)); err != ok || told.Text != s {
		w.t.Fatalf("Data(%s) = %s, %v, not %s", name, short(told.Text), err, short(s))
	}
}

// refuse hands both a call that must be refused, with that error.
func (w *twin) refuse(c api.Call, want api.Errno) {
	w.t.Helper()
	if _, got := w.do(c); got != want {
		w.t.Fatalf("%s = %v, not %v", short(c), got, want)
	}
}

func (w *twin) must(want, got api.Errno, what string) {
	w.t.Helper()
	if got != want {
		w.t.Fatalf("%s = %v, not %v", what, got, want)
	}
}

// ask holds all memory, Acting, End and Done against what they must be.
func (w *twin) ask(what any) {
	w.t.Helper()
	for _, y := range w.memories {
		if !bytes.Equal(y.is, y.must) {
			w.t.Fatalf("P19.7: %s: the buffer has been written to", short(what))
		}
	}
	acting, end := 0, 0
	if w.m.begun {
		acting, end = w.m.acting, w.m.end
	}
	if w.d.Acting() != acting || w.d.End() != end || w.d.Done() != w.m.done() {
		w.t.Fatalf("P19.6: %s: Acting %d, End %d, Done %v, not %d, %d, %v", short(what), w.d.Acting(), w.d.End(), w.d.Done(), acting, end, w.m.done())
	}
}

// short tells a call, or whatever is asked, as plain characters, without what may be long.
func short(x any) string {
	s := strconv.QuoteToASCII(fmt.Sprintf("%+v", x))
	return s[:min(len(s), 300)]
}

func want(t testing.TB, what string, got, need any) {
	t.Helper()
	if got != need {
		t.Errorf("%s = %s, not %s", what, short(got), short(need))
	}
}

// begin is a decoder that must be there.
func begin(t testing.TB, f api.Form, reader int) *dec.Decoder {
	t.Helper()
	d, err := dec.New(f, reader)
	if err != ok || d == nil {
		t.Fatalf("P19.1: New = %v, %v", d, err)
	}
	return d
}
