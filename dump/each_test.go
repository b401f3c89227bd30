package dump_test

import (
	"iter"
	"slices"
	"testing"

	"stencil/api"
	"stencil/dump"
)

// first are so many spans of an iterator, and whether it gave one more behind a reader that had stopped.
func first(seq iter.Seq[api.Span], n int) (spans []api.Span, goesOn bool) {
	seq(func(s api.Span) bool {
		if len(spans) == n {
			goesOn = true
			return false
		}
		spans = append(spans, s)
		return len(spans) < n
	})
	return spans, goesOn
}

// eachMessages are messages of every kind of member and of every version, whole ones and such as are refused somewhere.
func eachMessages(t testing.TB) (api.Form, [][]byte) {
	f := grown(t)
	var all [][]byte
	for version := 1; version <= 4; version++ {
		b := written(t, f, version, grownTree(version))
		all = append(all, b, b[:len(b)-1], b[:len(b)/2])
	}
	return f, append(all, nil, unhex("ff"))
}

// P22.2: an iterator stops at any span, and begins again by itself.
func TestStopped(t *testing.T) {
	f, messages := eachMessages(t)
	for _, b := range messages {
		seq := dump.Each(f, b, 0)
		all := slices.Collect(seq)
		for n := 1; n <= len(all); n++ {
			spans, goesOn := first(seq, n)
			if goesOn || !sameSpans(spans, all[:n]) {
				t.Errorf("P22.2: stopped at %d: %s; goes on: %v", n, told(spans), goesOn)
			}
			var ranged []api.Span
			for s := range seq {
				if ranged = append(ranged, s); len(ranged) == n {
					break
				}
			}
			if !sameSpans(ranged, all[:n]) || !sameSpans(slices.Collect(seq), all) {
				t.Errorf("P22.2: stopped at %d: %s, or another way behind that", n, told(ranged))
			}
		}
	}
}

// P22.2: it may be gone through inside of itself, at every span; each of the two sees all.
func TestInsideItself(t *testing.T) {
	f, messages := eachMessages(t)
	for _, b := range messages {
		seq := dump.Each(f, b, 0)
		all := slices.Collect(seq)
		i := 0
		for s := range seq {
			if !sameSpan(s, all[i]) {
				t.Errorf("P22.2: outside: %v, not %v", s, all[i])
			}
			if inside := slices.Collect(seq); !sameSpans(inside, all) {
				t.Errorf("P22.2: inside: %s", told(inside))
			}
			if some, _ := first(seq, 2); !sameSpans(some, all[:min(2, len(all))]) {
				t.Errorf("P22.2: inside, stopped: %s", told(some))
			}
			i++
		}
		if i != len(all) {
			t.Errorf("P22.2: %d spans with others inside, not %d", i, len(all))
		}
	}
}

// P22.2: two that are pulled by turns don't see each other.
func TestByTurns(t *testing.T) {
	f := made(t, chapter)
	seq := dump.Each(f, []byte(sample), 0)
	one, stopOne := iter.Pull(seq)
	two, stopTwo := iter.Pull(seq)
	defer stopTwo()
	var x, y []api.Span
	for range 4 {
		s, _ := one()
		x = append(x, s)
	}
	for s, has := two(); has; s, has = two() {
		y = append(y, s)
	}
	s, _ := one()
	x = append(x, s)
	stopOne()
	if told(y) != sampleSpans || told(x) != sampleFront[5] {
		t.Errorf("P22.2: %s\n%s", told(x), told(y))
	}
}

// P22.2: what the caller writes into the buffer behind the asking isn't seen: ahead of a go, while it goes, and between two.
func TestBufferWrittenOver(t *testing.T) {
	f, messages := eachMessages(t)
	for _, message := range messages {
		want := told(each(f, message, 0))
		b := append(slices.Clone(message), "room behind"...)[:len(message)]
		seq := dump.Each(f, b, 0)
		spoil(b, 0xFF)
		if got := told(slices.Collect(seq)); got != want {
			t.Errorf("P22.2: written over ahead: %s\nnot %s", got, want)
		}
		for i := range len(message) {
			copy(b, message)
			seq := dump.Each(f, b, 0)
			var got []api.Span
			for s := range seq {
				got = append(got, s)
				if len(got) > i {
					spoil(b, byte(i))
				}
			}
			if told(got) != want {
				t.Errorf("P22.2: written over at %d: %s\nnot %s", i, told(got), want)
			}
			clear(b)
			if got := told(slices.Collect(seq)); got != want {
				t.Errorf("P22.2: written over between: %s\nnot %s", got, want)
			}
		}
	}
}

// P22.2: nor is what becomes of the form behind the asking.
func TestFormWrittenOver(t *testing.T) {
	whole, messages := eachMessages(t)
	for _, b := range messages {
		want := told(each(whole, b, 0))
		f := roomyForm(whole)
		seq := dump.Each(f, b, 0)
		n := 0
		for range seq {
			if n++; n == 2 {
				spoilForm(f)
			}
		}
		if got := told(slices.Collect(seq)); got != want {
			t.Errorf("P22.2: the form written over: %s\nnot %s", got, want)
		}
	}
	f := made(t, chapter)
	f.Order = 9
	seq := dump.Each(f, []byte(sample), 0)
	f.Order = api.Little
	for s := range seq {
		t.Errorf("P22.2: of what was no form: %v", s)
	}
}

// P22.2: asked anew, the bytes are seen as they are now.
func TestAskedAnew(t *testing.T) {
	f := made(t, chapter)
	b := []byte(sample)
	old := dump.Each(f, b, 0)
	b[13] = 0
	fresh := dump.Each(f, b, 0)
	if got := told(slices.Collect(old)); got != sampleSpans {
		t.Errorf("P22.2: asked ahead: %s", got)
	}
	// With no entry the byte 4 is d's length by now, of which the bytes are one too few.
	if got := told(slices.Collect(fresh)); got != sampleFront[4] {
		t.Errorf("P22.2: asked anew: %s", got)
	}
	b = append(b, "more"...)
	if got := told(slices.Collect(fresh)); got != sampleFront[4] {
		t.Errorf("P22.2: with bytes behind that weren't there: %s", got)
	}
}

// P22.2: a reader that panics stops it; it may be gone through again behind that.
func TestReaderPanics(t *testing.T) {
	seq := dump.Each(made(t, chapter), []byte(sample), 0)
	func() {
		defer func() {
			if got := recover(); got != "the reader's own" {
				t.Errorf("P22.2: the reader's panic is %v", got)
			}
		}()
		for s := range seq {
			if s.Kind == api.SpanDim {
				panic("the reader's own")
			}
		}
	}()
	if got := told(slices.Collect(seq)); got != sampleSpans {
		t.Errorf("P22.2: behind a panic: %s", got)
	}
}

// P22.2: Each goes as far as Spans would, at every place.
func TestEachElsewhere(t *testing.T) {
	f := made(t, chapter)
	for at := range 30 {
		b := slices.Concat(noise(at, 1), []byte(sample[:17]))
		got := each(f, b, at)
		for i := range got {
			got[i].From -= at
			got[i].To -= at
		}
		if told(got) != sampleFront[5] {
			t.Errorf("P22.2: at %d: %s", at, told(got))
		}
	}
}
