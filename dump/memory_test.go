package dump_test

import (
	"bytes"
	"fmt"
	"reflect"
	"slices"
	"strings"
	"testing"
	"unsafe"

	"stencil/api"
	"stencil/dump"
)

// roomy is a list with room behind it, in which something stands.
func roomy[T any](list []T, mark T) []T {
	r := append(slices.Clone(list), mark, mark, mark)
	return r[:len(list)]
}

// opened is a copy of all that a list has, the room behind it too.
func opened[T any](list []T) []T { return slices.Clone(list[:cap(list)]) }

// spoil writes over a list, and the room behind it.
func spoil[T any](list []T, mark T) {
	all := list[:cap(list)]
	for i := range all {
		all[i] = mark
	}
	_ = append(list, mark, mark)
}

func roomyForm(f api.Form) api.Form {
	f.Tokens = slices.Clone(f.Tokens)
	for i := range f.Tokens {
		f.Tokens[i].Const = roomy(f.Tokens[i].Const, 77)
	}
	f.Tokens = roomy(f.Tokens, api.Token{Op: api.BeginGroup, Name: "behind", Const: []uint64{7}})
	return f
}

func openedForm(f api.Form) api.Form {
	f.Tokens = opened(f.Tokens)
	for i := range f.Tokens {
		f.Tokens[i].Const = opened(f.Tokens[i].Const)
	}
	return f
}

func spoilForm(f api.Form) {
	for _, t := range f.Tokens[:cap(f.Tokens)] {
		spoil(t.Const, 99)
	}
	spoil(f.Tokens, api.Token{Name: "other", Const: []uint64{98}})
}

var behind = api.Step{Name: "behind", Entry: 5}

// answers are all that the calls answer, as one text.
func answers(f api.Form, b []byte, at int) string {
	spans, e := dump.Spans(f, b, at)
	lines, err := dump.Lines(f, b, at)
	s, no, n := dump.Read(lines)
	return fmt.Sprint(spans, e, lines, err, s, no, n, each(f, b, at))
}

// P0.1, P22.6: nothing that is handed in is changed, nor the room behind it; what stands there is no matter.
func TestArgumentsStay(t *testing.T) {
	whole, none := grown(t), grown(t)
	none.Tokens = none.Tokens[:len(none.Tokens)-1]
	for version := 1; version <= 4; version++ {
		for cut := range 4 {
			b := slices.Concat([]byte("???"), written(t, whole, version, grownTree(version)))
			b = b[:len(b)-cut]
			for _, f := range []api.Form{whole, then(t, whole, version), none} {
				form, room := roomyForm(f), append(slices.Clone(b), "behind the buffer"...)
				wantForm, wantRoom := openedForm(form), slices.Clone(room)
				got, want := answers(form, room[:len(b)], 3), answers(f, slices.Clip(b), 3)
				if got != want {
					t.Errorf("P0.1: with room behind: %s\nwant\n%s", got, want)
				}
				if !reflect.DeepEqual(openedForm(form), wantForm) {
					t.Error("P0.1: the form is changed")
				}
				if !bytes.Equal(room, wantRoom) {
					t.Error("P0.1: the buffer, or the room behind it, is changed")
				}
			}
		}
	}
}

// P0.1, P22.6: so it is of Read's lines.
func TestLinesStay(t *testing.T) {
	for _, last := range []string{"18 19 pad - 00", "none"} {
		lines := roomy(append(slices.Clone(sampleLines), last), "19 20 pad - 00")
		was := opened(lines)
		s, _, _ := dump.Read(lines)
		want := strings.Clone(s)
		if !slices.Equal(opened(lines), was) {
			t.Errorf("P0.1: the lines are changed: %q", opened(lines))
		}
		spoil(lines, "0 1 pad - 00")
		if s != want {
			t.Errorf("P0.1: the bytes are the lines' own: %q", s)
		}
	}
}

// P0.1, P22.6: answers are new memory: no two lists of one, or of two, share any, and none shares any with what was handed in.
func TestAnswersAreNew(t *testing.T) {
	for version := 1; version <= 4; version++ {
		f := roomyForm(grown(t))
		b := roomy(written(t, f, version, grownTree(version)), 7)
		form, bytesWere := openedForm(f), opened(b)
		spans, _ := dump.Spans(f, b, 0)
		lines, _ := dump.Lines(f, b, 0)
		want := fmt.Sprint(spans, lines)
		again, _ := dump.Spans(f, b, 0)
		more, _ := dump.Lines(f, b, 0)
		for _, s := range slices.Concat(again, each(f, b, 0)) {
			spoil(s.Path, behind)
		}
		spoil(again, api.Span{From: 99})
		spoil(more, "spoilt")
		if !reflect.DeepEqual(openedForm(f), form) || !slices.Equal(opened(b), bytesWere) {
			t.Error("P0.1: an answer shares memory with what was handed in")
		}
		spoilForm(f)
		spoil(b, 0xAA)
		if got := fmt.Sprint(spans, lines); got != want {
			t.Errorf("P0.1: the answer is the caller's memory, or another answer's: %s, not %s", got, want)
		}
	}
}

// P0.1, P22.6: no two paths of one answer share memory: what is written over one, and behind it, changes no other.
func TestPathsAreApart(t *testing.T) {
	f := grown(t)
	for version := 1; version <= 4; version++ {
		b := written(t, f, version, grownTree(version))
		want, _ := dump.Spans(f, b, 0)
		again, _ := dump.Spans(f, b, 0)
		for _, spans := range [][]api.Span{again, each(f, b, 0)} {
			for i := range spans {
				spoil(spans[i].Path, behind)
				if rest := spans[i+1:]; !sameSpans(rest, want[i+1:]) {
					t.Fatalf("P0.1: the path of %d is that of another: %s", i, told(rest))
				}
			}
		}
		// From the other end on, too.
		spans := each(f, b, 0)
		for i := len(spans) - 1; i >= 0; i-- {
			spoil(spans[i].Path, behind)
			if rest := spans[:i]; !sameSpans(rest, want[:i]) {
				t.Fatalf("P0.1: the path of %d is that of another: %s", i, told(rest))
			}
		}
	}
}

// P22.2: what an iterator yields is the reader's own, while it goes too: what he writes there changes nothing that comes.
func TestYieldedIsNew(t *testing.T) {
	f := grown(t)
	for version := 1; version <= 4; version++ {
		b := written(t, f, version, grownTree(version))
		want := told(each(f, b, 0))
		seq := dump.Each(f, b, 0)
		for range 2 {
			var got []string
			for s := range seq {
				got = append(got, told([]api.Span{s}))
				spoil(s.Path, behind)
			}
			if strings.Join(got, "; ") != want {
				t.Errorf("P22.2: with the paths written over: %s\nnot %s", got, want)
			}
		}
	}
}

// within tells whether a text lies in another one's memory.
func within(s, whole string) bool {
	if s == "" || whole == "" {
		return false
	}
	at, from := uintptr(unsafe.Pointer(unsafe.StringData(s))), uintptr(unsafe.Pointer(unsafe.StringData(whole)))
	return at >= from && at < from+uintptr(len(whole))
}

// P0.1: no text that is handed in is kept in an answer, nor any byte of the buffer.
func TestTextsAreNew(t *testing.T) {
	f := grown(t)
	var all strings.Builder
	for _, x := range f.Tokens {
		all.WriteString(x.Name)
	}
	names, from := all.String(), 0
	for i := range f.Tokens {
		n := len(f.Tokens[i].Name)
		f.Tokens[i].Name, from = names[from:from+n], from+n
	}
	b := written(t, f, 4, grownTree(4))
	given := []string{names, unsafe.String(&b[0], len(b))}
	spans, _ := dump.Spans(f, b, 0)
	lines, _ := dump.Lines(f, b, 0)
	for _, whole := range given {
		for _, s := range slices.Concat(spans, each(f, b, 0)) {
			for _, step := range s.Path {
				if within(step.Name, whole) {
					t.Errorf("P0.1: the name %q is the caller's own", step.Name)
				}
			}
		}
		for _, line := range lines {
			if within(line, whole) {
				t.Errorf("P0.1: the line %q is the caller's own", line)
			}
		}
	}
	for n := range lines {
		s, _, _ := dump.Read(lines[:n+1])
		for _, line := range lines {
			if within(s, line) {
				t.Errorf("P0.1: the bytes %q are the line's own", s)
			}
		}
	}
}

// P22.1 to P22.4: what is answered hangs on the arguments alone: not on what was asked before.
func TestAgain(t *testing.T) {
	f := grown(t)
	b := written(t, f, 2, grownTree(2))
	want := answers(f, b, 0)
	dump.Spans(api.Form{}, b, 0)
	dump.Lines(big(f), b, 3)
	dump.Read([]string{"0 1 pad - 00", "none"})
	for range dump.Each(f, b[:20], 0) {
		break
	}
	if got := answers(f, b, 0); got != want {
		t.Errorf("P0.1: asked again, another answer: %s, not %s", got, want)
	}
}
