package enc_test

import (
	"bytes"
	"fmt"
	"slices"
	"strconv"
	"testing"

	"stencil/api"
	"stencil/enc"
)

// margin is how much memory lies ahead of a buffer, and how much room behind it.
const margin = 16

// memory is a buffer with what lies about it, and what must stand there.
type memory struct{ is, must []byte }

func (y *memory) buffer() []byte  { return y.is[margin : len(y.is)-margin] }
func (y *memory) allowed() []byte { return y.must[margin : len(y.must)-margin] }

// twin is an encoder and a second one that are handed the same calls.
type twin struct {
	t        *testing.T
	e        *enc.Encoder
	m        *second
	memories []*memory
	calls    int
}

// newTwin is one of a form.
func newTwin(t *testing.T, f api.Form) *twin {
	t.Helper()
	e, err := enc.New(f)
	if err != ok || e == nil {
		t.Fatalf("P18.1: New = %v, %v", e, err)
	}
	w := &twin{t: t, e: e, m: newSecond(f)}
	w.ask("New")
	return w
}

// wrapped is one whose message begins at a place of a buffer of so many bytes.
func wrapped(t *testing.T, f api.Form, size, at int) *twin {
	t.Helper()
	w := newTwin(t, f)
	w.must(ok, w.wrap(w.buffer(size), at), "Wrap")
	return w
}

// buffer is a new one of so many bytes, none of which is 0, inside greater memory.
func (w *twin) buffer(size int) *memory {
	y := &memory{is: make([]byte, size+2*margin)}
	for i := range y.is {
		y.is[i] = byte(0x81 + (5*i+size)%0x70)
	}
	y.must = slices.Clone(y.is)
	w.memories = append(w.memories, y)
	return y
}

// wrap hands both the buffer, which has room behind its length.
func (w *twin) wrap(y *memory, at int) api.Errno {
	w.t.Helper()
	what := fmt.Sprintf("P18.2: Wrap of %d bytes at %d", len(y.buffer()), at)
	got, want := w.e.Wrap(y.buffer(), at), w.m.wrap(y.allowed(), at)
	if got != want {
		w.t.Fatalf("%s = %v, not %v", what, got, want)
	}
	w.ask(what)
	return got
}

// writes is the caller, who writes into his buffer.
func (w *twin) writes(y *memory, at int, b byte) { y.buffer()[at], y.allowed()[at] = b, b }

// do hands both a call, and asks that they answer the same, and that just the bytes which the second one has changed are changed.
func (w *twin) do(c api.Call) api.Errno {
	w.t.Helper()
	words, spare := slices.Clone(c.Words), uint64(0xFACE)
	handed := c
	handed.Words = append(slices.Clone(c.Words), spare)[:len(c.Words)]
	w.calls++
	got, want := w.hand(handed), w.m.do(c)
	if got != want {
		w.t.Fatalf("P18.3: call %d, %s = %v, not %v", w.calls, short(c), got, want)
	}
	if whole := handed.Words[:len(words)+1]; !slices.Equal(whole[:len(words)], words) || whole[len(words)] != spare {
		w.t.Fatalf("P18.6: %s: the words are changed: %d", short(c), handed.Words)
	}
	for i := range handed.Words {
		handed.Words[i] = 0x55
	}
	w.ask(c)
	return got
}

// hand carries a call out by Do, every other time by the call of its Kind.
func (w *twin) hand(c api.Call) api.Errno {
	switch w.calls % 4 {
	case 0:
		return w.e.Do(c)
	case 2:
		return w.e.Do(cluttered(c))
	}
	switch c.Kind {
	case api.CallField:
		return w.e.Field(c.Name, c.Words...)
	case api.CallGroup:
		return w.e.Group(c.Name, c.Count)
	case api.CallNext:
		return w.e.Next()
	case api.CallData:
		return w.e.Data(c.Name, c.Text)
	}
	return w.e.Do(c)
}

// cluttered is a call with more in it than its Kind has, which isn't looked at.
func cluttered(c api.Call) api.Call {
	if c.Kind != api.CallField {
		c.Words = []uint64{1, 2}
	}
	if c.Kind != api.CallGroup {
		c.Count = -1
	}
	if c.Kind == api.CallNext {
		c.Name = "g"
	}
	if c.Kind != api.CallData {
		c.Text = "text"
	}
	return c
}

// all hands both calls that must be taken.
func (w *twin) all(calls ...api.Call) {
	w.t.Helper()
	for i, c := range calls {
		if got := w.do(c); got != ok {
			w.t.Fatalf("call %d, %s = %v", i, short(c), got)
		}
	}
}

// refuse hands both a call that must be refused, with that error.
func (w *twin) refuse(c api.Call, want api.Errno) {
	w.t.Helper()
	if got := w.do(c); got != want {
		w.t.Fatalf("%s = %v, not %v", short(c), got, want)
	}
}

func (w *twin) must(want, got api.Errno, what string) {
	w.t.Helper()
	if got != want {
		w.t.Fatalf("%s = %v, not %v", what, got, want)
	}
}

// ask holds all memory, End and Done against what they must be.
func (w *twin) ask(what any) {
	w.t.Helper()
	for _, y := range w.memories {
		if !bytes.Equal(y.is, y.must) {
			at := 0
			for y.is[at] == y.must[at] {
				at++
			}
			last := min(at+32, len(y.is))
			w.t.Fatalf("P18.6: %s: bytes from %d of the buffer on:\n% X, not\n% X", short(what), at-margin, y.is[at:last], y.must[at:last])
		}
	}
	if w.e.End() != w.m.end || w.e.Done() != w.m.done() {
		w.t.Fatalf("P18.5: %s: End %d, Done %v, not %d, %v", short(what), w.e.End(), w.e.Done(), w.m.end, w.m.done())
	}
}

// short tells a call, or whatever is asked, as plain characters, without what may be long.
func short(x any) string {
	s := strconv.QuoteToASCII(fmt.Sprintf("%+v", x))
	return s[:min(len(s), 300)]
}

func want(t testing.TB, what string, got, need any) {
	t.Helper()
	if got != need {
		t.Errorf("%s = %s, not %s", what, short(got), short(need))
	}
}

// begin is an encoder that must be there.
func begin(t testing.TB, f api.Form) *enc.Encoder {
	t.Helper()
	e, err := enc.New(f)
	if err != ok || e == nil {
		t.Fatalf("P18.1: New = %v, %v", e, err)
	}
	return e
}
