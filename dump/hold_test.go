package dump_test

import (
	"bytes"
	"fmt"
	"slices"
	"strconv"
	"strings"
	"testing"

	"stencil/api"
	"stencil/codec"
	"stencil/dump"
	"stencil/look"
)

// steps is a path by its text; it isn't asked whether anything fits.
func steps(said string) []api.Step {
	var out []api.Step
	if said == "" {
		return nil
	}
	for _, word := range strings.Split(said, ".") {
		name, entry, has := strings.Cut(word, "[")
		s := api.Step{Name: name, Entry: -1}
		if has {
			s.Entry = number(strings.TrimSuffix(entry, "]"))
		}
		out = append(out, s)
	}
	return out
}

// say is a path's text, whatever the steps.
func say(path []api.Step) string {
	var words []string
	for _, s := range path {
		word := s.Name
		if s.Entry != -1 {
			word += "[" + strconv.Itoa(s.Entry) + "]"
		}
		words = append(words, word)
	}
	return strings.Join(words, ".")
}

var kindNames = []string{"head", "field", "pad", "dim", "length", "data"}

// told are spans as a text: "0 8 head; 8 9 field a".
func told(spans []api.Span) string {
	var out []string
	for _, s := range spans {
		out = append(out, strings.TrimSpace(fmt.Sprintf("%d %d %s %s", s.From, s.To, kindNames[s.Kind], say(s.Path))))
	}
	return strings.Join(out, "; ")
}

// each are the spans that Each gives.
func each(f api.Form, b []byte, at int) []api.Span { return slices.Collect(dump.Each(f, b, at)) }

func sameSpan(x, y api.Span) bool {
	return x.From == y.From && x.To == y.To && x.Kind == y.Kind && slices.Equal(x.Path, y.Path)
}

func sameSpans(x, y []api.Span) bool { return slices.EqualFunc(x, y, sameSpan) }

// linesOf are the lines of spans.
func linesOf(spans []api.Span, b []byte, at int) []string {
	var out []string
	for _, s := range spans {
		path := say(s.Path)
		if path == "" {
			path = "-"
		}
		out = append(out, fmt.Sprintf("%d %d %s %s %x", s.From-at, s.To-at, kindNames[s.Kind], path, b[s.From:s.To]))
	}
	return out
}

// margin is how much memory lies ahead of a buffer, and how much room behind it.
const margin = 16

// noise are bytes none of which is 0.
func noise(n, seed int) []byte {
	b := make([]byte, n)
	for i := range b {
		b[i] = byte(1 + (7*i+31*seed)%255)
	}
	return b
}

// head are the first bytes of some, as text.
func head(b []byte) string { return fmt.Sprintf("%d (%d bytes)", b[:min(len(b), 120)], len(b)) }

// written are the bytes of a tree of a form at a version.
func written(t testing.TB, f api.Form, version int, m []api.Val) []byte {
	t.Helper()
	s, e := codec.Bytes(then(t, f, version), m)
	if e != ok {
		t.Fatalf("no bytes at %d: %v", version, e)
	}
	return []byte(s)
}

// hold asks everything of a message in a buffer that has memory about it: that all calls answer as the second look says, and that no byte has changed. The error that must be told is answered, and the spans that Each must give.
func hold(t testing.TB, p *plan, b []byte, at int) (api.Errno, []api.Span) {
	t.Helper()
	whole := slices.Concat(noise(margin, len(b)), b, noise(margin, at&15))
	was := slices.Clone(whole)
	buffer := whole[margin : margin+len(b)]
	s := sightOf(p, slices.Clone(b), at)
	front := s.spans()
	var want []api.Span
	if s.err == ok {
		want = front
	}
	if got, e := dump.Spans(p.f, buffer, at); e != s.err || !sameSpans(got, want) {
		t.Fatalf("P22.1: Spans of %s at %d = %s, %v\nwant %s, %v", head(b), at, told(got), e, told(want), s.err)
	}
	if got := each(p.f, buffer, at); !sameSpans(got, front) {
		t.Fatalf("P22.2: Each of %s at %d = %s\nwant %s (%v)", head(b), at, told(got), told(front), s.err)
	}
	lines, e := dump.Lines(p.f, buffer, at)
	if e != s.err || !slices.Equal(lines, linesOf(want, b, at)) {
		t.Fatalf("P22.3: Lines of %s at %d = %q, %v\nwant %q, %v", head(b), at, lines, e, linesOf(want, b, at), s.err)
	}
	if s.err == ok {
		holdWhole(t, p, buffer, at, want)
	}
	if !bytes.Equal(whole, was) {
		t.Fatalf("P22.6: the buffer %s, or what is about it, has changed", head(b))
	}
	return s.err, front
}

// holdWhole asks of a whole message what P22.5 says follows, of other layers' calls alone.
func holdWhole(t testing.TB, p *plan, b []byte, at int, spans []api.Span) {
	t.Helper()
	end := at
	for _, s := range spans {
		if s.From != end || s.To <= s.From {
			t.Fatalf("P22.5: a span from %d to %d behind %d", s.From, s.To, end)
		}
		end = s.To
	}
	if n, e := codec.Length(p.f, b, at); e != ok || end-at != n {
		t.Fatalf("P22.5: the spans cover %d bytes, the message has %d (%v)", end-at, n, e)
	}
	lines, _ := dump.Lines(p.f, b, at)
	if s, e, n := dump.Read(lines); s != string(b[at:end]) || e != ok || n != 0 {
		t.Fatalf("P22.5: Read of Lines = %x, %v, %d; want %x", s, e, n, b[at:end])
	}
	for _, s := range spans {
		switch s.Kind {
		case api.SpanField, api.SpanDim, api.SpanData:
			holdWhere(t, p, b, at, s)
		}
	}
}

// holdWhere asks that look tells the same of a span. Of a field without a leaf it knows nothing.
func holdWhere(t testing.TB, p *plan, b []byte, at int, s api.Span) {
	t.Helper()
	got, e := look.Where(p.f, b, at, s.Path)
	if s.Kind == api.SpanField && !p.hasLeaf(s.Path) {
		if e != api.ErrPath {
			t.Fatalf("P21.2: Where of %s, which no call names = %v, %v", say(s.Path), got, e)
		}
		return
	}
	if e != ok || !sameSpan(got, s) {
		t.Fatalf("P22.5: Where of %s in %s at %d = %v, %v; the span is %v", say(s.Path), head(b), at, got, e, s)
	}
}

// hasLeaf tells whether the field that a path leads to has one.
func (p *plan) hasLeaf(path []api.Step) bool {
	place := 0
	for _, s := range path {
		k := slices.IndexFunc(p.parts[place], func(k int) bool { return p.f.Tokens[k].Name == s.Name })
		place = p.parts[place][k]
	}
	field := p.f.Tokens[place]
	for _, t := range p.f.Tokens[place:field.Pair] {
		if t.Op == api.Encoding && t.Presence != api.Constant {
			return field.Presence != api.Constant
		}
	}
	return false
}

// wants asks everything of a message, and that the error and the spans that Each gives are these.
func wants(t testing.TB, f api.Form, b []byte, at int, want api.Errno, spans string) {
	t.Helper()
	if e, front := hold(t, planOf(f), b, at); e != want || told(front) != spans {
		t.Errorf("P22.1, P22.2: %s at %d: %v, %q\nwant %v, %q", head(b), at, e, told(front), want, spans)
	}
}

// refuse asks that all calls answer an error, with nothing beside it, and that Each gives nothing. The form may be none.
func refuse(t testing.TB, what string, f api.Form, b []byte, at int, want api.Errno) {
	t.Helper()
	if spans, e := dump.Spans(f, b, at); e != want || len(spans) != 0 {
		t.Errorf("P22.1: %s: Spans at %d = %v, %v; want %v", what, at, spans, e, want)
	}
	if lines, e := dump.Lines(f, b, at); e != want || len(lines) != 0 {
		t.Errorf("P22.3: %s: Lines at %d = %q, %v; want %v", what, at, lines, e, want)
	}
	seq := dump.Each(f, b, at)
	for range 2 {
		for s := range seq {
			t.Errorf("P22.2: %s: Each at %d gives %v", what, at, s)
		}
	}
}
