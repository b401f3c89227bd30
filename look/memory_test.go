package look_test

import (
	"bytes"
	"fmt"
	"reflect"
	"slices"
	"strings"
	"testing"
	"unsafe"

	"stencil/api"
	"stencil/look"
)

// roomy is a list with room behind it, in which something stands.
func roomy[T any](list []T, mark T) []T {
	r := append(slices.Clone(list), mark, mark, mark)
	return r[:len(list)]
}

// opened is a copy of all that a list has, the room behind it too.
func opened[T any](list []T) []T { return slices.Clone(list[:cap(list)]) }

// spoil writes over a list, and the room behind it.
func spoil[T any](list []T, mark T) {
	all := list[:cap(list)]
	for i := range all {
		all[i] = mark
	}
	_ = append(list, mark, mark)
}

func roomyForm(f api.Form) api.Form {
	f.Tokens = slices.Clone(f.Tokens)
	for i := range f.Tokens {
		f.Tokens[i].Const = roomy(f.Tokens[i].Const, 77)
	}
	f.Tokens = roomy(f.Tokens, api.Token{Op: api.BeginGroup, Name: "behind", Const: []uint64{7}})
	return f
}

func openedForm(f api.Form) api.Form {
	f.Tokens = opened(f.Tokens)
	for i := range f.Tokens {
		f.Tokens[i].Const = opened(f.Tokens[i].Const)
	}
	return f
}

func spoilForm(f api.Form) {
	for _, t := range f.Tokens[:cap(f.Tokens)] {
		spoil(t.Const, 99)
	}
	spoil(f.Tokens, api.Token{Name: "other", Const: []uint64{98}})
}

var behind = api.Step{Name: "behind", Entry: 5}

// asked are paths of every kind into grown, and such as are none.
var asked = []string{"a", "e", "s", "p", "q", "k", "g", "g[0].x", "g[0].y", "g[0].h", "g[0].h[0].z", "g[0].h[0].n", "g[1].h", "g[0].m", "g[7].m", "i", "i[0].v", "d", "l", "z", "a[0]", "g[0]"}

// answers are all that the calls answer, as one text. Each Set has a buffer of its own, with room behind it.
func answers(f api.Form, b []byte, at int, path []api.Step, words []uint64) string {
	told, e := look.Get(f, b, at, path)
	span, err := look.Where(f, b, at, path)
	mine := opened(b)[:len(b)]
	wrong := look.Set(f, mine, at, path, words)
	text, no := look.Text(path)
	steps, none, place := look.Path(text)
	return fmt.Sprint(told.Words, told.Count, told.Text, e, span, err, mine, wrong, text, no, steps, none, place)
}

// P0.1: nothing that is handed in is changed, nor the room behind it; what stands there is no matter.
func TestArgumentsStay(t *testing.T) {
	whole, none := grown(t), grown(t)
	none.Tokens = none.Tokens[:len(none.Tokens)-1]
	for version := 1; version <= 4; version++ {
		for cut := range 2 {
			b := slices.Concat([]byte("???"), written(t, whole, version, grownTree(version)))
			b = b[:len(b)-cut]
			for _, f := range []api.Form{whole, then(t, whole, version), none} {
				form, room := roomyForm(f), append(slices.Clone(b), "behind the buffer"...)
				wantForm, wantRoom := openedForm(form), slices.Clone(room)
				for _, said := range asked {
					for n := range 4 {
						path, words := roomy(steps(said), behind), roomy(slices.Repeat([]uint64{1}, n), 77)
						wantPath, wantWords := opened(path), opened(words)
						got := answers(form, room[:len(b):len(room)], 3, path, words)
						if want := answers(f, slices.Clip(b), 3, steps(said), nil); n == 0 && got != want {
							t.Errorf("P0.1: %s: with room behind: %s\nwant\n%s", said, got, want)
						}
						if !slices.Equal(opened(path), wantPath) || !slices.Equal(opened(words), wantWords) {
							t.Errorf("P0.1: %s: the path or the words are changed: %v, %v", said, opened(path), opened(words))
						}
					}
				}
				if !reflect.DeepEqual(openedForm(form), wantForm) {
					t.Error("P0.1: the form is changed")
				}
				if !bytes.Equal(room, wantRoom) {
					t.Errorf("P0.1: the buffer, or the room behind it, is changed")
				}
			}
		}
	}
}

// P0.1: Set writes into the buffer and not behind it, and leaves all else that it is handed.
func TestSetLeavesTheRest(t *testing.T) {
	form := roomyForm(grown(t))
	b := written(t, form, 4, grownTree(4))
	room := append(slices.Clone(b), "behind the buffer"...)
	wantForm := openedForm(form)
	for said, words := range map[string][]uint64{"a": {3}, "p": {4, 5}, "q": {6, 7, 8}, "g[0].h[0].z": {9, 10, 11}, "i[0].v": {12}} {
		path, given := roomy(steps(said), behind), roomy(words, 77)
		wantPath, wantWords := opened(path), opened(given)
		if e := look.Set(form, room[:len(b)], 0, path, given); e != ok {
			t.Errorf("P21.3: Set of %s = %v", said, e)
		}
		if !slices.Equal(opened(path), wantPath) || !slices.Equal(opened(given), wantWords) {
			t.Errorf("P0.1: Set of %s has changed the path or the words", said)
		}
		// The words aren't kept: what becomes of them is nothing to the bytes.
		was := slices.Clone(room)
		spoil(given, 1)
		spoil(path, behind)
		if !bytes.Equal(room, was) {
			t.Errorf("P0.1: Set of %s has kept its words", said)
		}
	}
	if string(room[len(b):]) != "behind the buffer" {
		t.Errorf("P0.1: the room behind the buffer is %q", room[len(b):])
	}
	if !reflect.DeepEqual(openedForm(form), wantForm) {
		t.Error("P0.1: Set has changed the form")
	}
}

// P0.1: answers are new memory: no two share any, and none shares any with what was handed in.
func TestAnswersAreNew(t *testing.T) {
	for version := 1; version <= 4; version++ {
		for _, said := range asked {
			f := roomyForm(grown(t))
			b := roomy(written(t, f, version, grownTree(version)), 7)
			path := roomy(steps(said), behind)
			form, bytesWere, pathWas := openedForm(f), opened(b), opened(path)
			told, e := look.Get(f, b, 0, path)
			again, _ := look.Get(f, b, 0, path)
			span, err := look.Where(f, b, 0, path)
			more, _ := look.Where(f, b, 0, path)
			want := fmt.Sprint(told, e, span, err)
			spoil(again.Words, 55)
			spoil(more.Path, api.Step{Name: "spoilt", Entry: 3})
			if !reflect.DeepEqual(openedForm(f), form) || !slices.Equal(opened(b), bytesWere) || !slices.Equal(opened(path), pathWas) {
				t.Errorf("P0.1: %s: the answer shares memory with what was handed in", said)
			}
			spoilForm(f)
			spoil(b, 0xAA)
			spoil(path, behind)
			if got := fmt.Sprint(told, e, span, err); got != want {
				t.Errorf("P0.1: %s: the answer is the caller's memory, or another answer's: %s, not %s", said, got, want)
			}
		}
	}
	for _, s := range []string{"a", "a.b[3].c", "legs[2].price"} {
		one, _, _ := look.Path(s)
		two, _, _ := look.Path(s)
		want := slices.Clone(two)
		spoil(one, behind)
		if three, _, _ := look.Path(s); !slices.Equal(two, want) || !slices.Equal(three, want) {
			t.Errorf("P0.1: two answers of Path(%q) share memory", s)
		}
	}
}

// within tells whether a text lies in another one's memory.
func within(s, whole string) bool {
	if s == "" || whole == "" {
		return false
	}
	at, from := uintptr(unsafe.Pointer(unsafe.StringData(s))), uintptr(unsafe.Pointer(unsafe.StringData(whole)))
	return at >= from && at < from+uintptr(len(whole))
}

// joined lays all names of a form, or of a path, into one text, so that what is kept of them shows.
func joined(names ...*string) string {
	var b strings.Builder
	for _, name := range names {
		b.WriteString(*name)
	}
	whole, from := b.String(), 0
	for _, name := range names {
		*name, from = whole[from:from+len(*name)], from+len(*name)
	}
	return whole
}

// P0.1: no text that is handed in is kept in an answer, nor any byte of the buffer.
func TestTextsAreNew(t *testing.T) {
	f := grown(t)
	var names []*string
	for i := range f.Tokens {
		names = append(names, &f.Tokens[i].Name)
	}
	given := []string{joined(names...)}
	b := written(t, f, 4, grownTree(4))
	given = append(given, unsafe.String(&b[0], len(b)))
	for _, said := range asked {
		path := steps(said)
		var names []*string
		for i := range path {
			names = append(names, &path[i].Name)
		}
		given := append(slices.Clone(given), joined(names...))
		told, _ := look.Get(f, b, 0, path)
		span, _ := look.Where(f, b, 0, path)
		text, _ := look.Text(path)
		read, _, _ := look.Path(text)
		given = append(given, text)
		for _, whole := range given {
			if within(told.Text, whole) || (whole != text && within(text, whole)) {
				t.Errorf("P0.1: %s: %q or %q is the caller's own", said, told.Text, text)
			}
			for _, s := range slices.Concat(span.Path, read) {
				if within(s.Name, whole) {
					t.Errorf("P0.1: %s: the name %q is the caller's own", said, s.Name)
				}
			}
		}
	}
}

// P21.1 to P21.5: what is answered hangs on the arguments alone: not on what was asked before.
func TestAgain(t *testing.T) {
	f := grown(t)
	b := written(t, f, 2, grownTree(2))
	ask := func() string {
		var out strings.Builder
		for _, said := range asked {
			out.WriteString(answers(f, slices.Clip(b), 0, steps(said), []uint64{1}))
		}
		return out.String()
	}
	first := ask()
	look.Get(api.Form{}, b, 0, steps("a"))
	look.Get(f, b[:20], 0, steps("i"))
	look.Set(f, slices.Clone(b), 0, steps("a"), []uint64{99})
	look.Where(big(f), b, 3, steps("g"))
	look.Path("a[65536]")
	look.Text([]api.Step{{}})
	if ask() != first {
		t.Error("P0.1: asked again, another answer")
	}
}
