package words_test

import (
	"fmt"
	"reflect"
	"slices"
	"strings"
	"testing"
	"unsafe"

	"stencil/api"
	"stencil/value"
	"stencil/words"
)

// roomy is a list with room behind it, in which something stands.
func roomy[T any](list []T, mark T) []T {
	r := append(slices.Clone(list), mark, mark, mark)
	return r[:len(list)]
}

// opened is a copy of all that a list has, the room behind it too.
func opened[T any](list []T) []T { return slices.Clone(list[:cap(list)]) }

// spoil writes over a list, and the room behind it.
func spoil[T any](list []T, mark T) {
	all := list[:cap(list)]
	for i := range all {
		all[i] = mark
	}
	_ = append(list, mark, mark)
}

func roomyForm(f api.Form) api.Form {
	f.Tokens = slices.Clone(f.Tokens)
	for i := range f.Tokens {
		f.Tokens[i].Const = roomy(f.Tokens[i].Const, 77)
	}
	f.Tokens = roomy(f.Tokens, api.Token{Op: api.Choice, Name: "behind", Const: []uint64{7}})
	return f
}

func openedForm(f api.Form) api.Form {
	f.Tokens = opened(f.Tokens)
	for i := range f.Tokens {
		f.Tokens[i].Const = opened(f.Tokens[i].Const)
	}
	return f
}

func spoilForm(f api.Form) {
	for _, t := range f.Tokens[:cap(f.Tokens)] {
		spoil(t.Const, 99)
	}
	spoil(f.Tokens, api.Token{Name: "other", Const: []uint64{98}})
}

func roomyTree(m []api.Val) []api.Val {
	m = slices.Clone(m)
	for i := range m {
		m[i].Words = roomy(m[i].Words, 66)
	}
	return roomy(m, api.Val{Depth: 3, Kind: api.ValEntry})
}

func openedTree(m []api.Val) []api.Val {
	m = opened(m)
	for i := range m {
		m[i].Words = opened(m[i].Words)
	}
	return m
}

func spoilTree(m []api.Val) {
	for _, v := range m[:cap(m)] {
		spoil(v.Words, 55)
	}
	spoil(m, api.Val{Name: "other", Words: []uint64{44}, Text: "spoilt"})
}

// P0.1: nothing that Print is handed is changed, nor the room behind it; what stands there is no matter.
func TestPrintLeavesAll(t *testing.T) {
	whole := grown(t)
	none := changed(whole, 0, func(t *api.Token) { t.Pair = 0 })
	good, wrong := tree(grownTree), tree(grownTree)
	wrong[3].Words[0] = 1 << 20
	for _, f := range []api.Form{whole, none} {
		for _, m := range [][]api.Val{good, good[:9], good[:len(good)-1], wrong, nil} {
			want, wantErr := words.Print(f, m)
			form, list := roomyForm(f), roomyTree(m)
			formWas, listWas := openedForm(form), openedTree(list)
			got, e := words.Print(form, list)
			if got != want || e != wantErr {
				t.Errorf("P0.1: with room behind: %s, %v\nwant %s, %v", got, e, want, wantErr)
			}
			if !reflect.DeepEqual(openedForm(form), formWas) || !reflect.DeepEqual(openedTree(list), listWas) {
				t.Error("P0.1: what Print was handed is changed")
			}
			kept := strings.Clone(got)
			spoilForm(form)
			spoilTree(list)
			if got != kept {
				t.Errorf("P0.1: the text is the caller's memory: %s", got)
			}
		}
	}
}

// P0.1: so it is of Parse; and what it answers is new memory: no two lists of one answer, or of two, share any.
func TestParseLeavesAll(t *testing.T) {
	f := grown(t)
	for _, s := range []string{grownText, "{}", "{g:[{} {h:[{} {}]}] s:3}", "{q:null p:null}", "{a:256}", ""} {
		form := roomyForm(f)
		formWas := openedForm(form)
		m, e, at := words.Parse(form, s)
		if !reflect.DeepEqual(openedForm(form), formWas) {
			t.Error("P0.1: the form is changed")
		}
		want := fmt.Sprint(m, e, at)
		again, _, _ := words.Parse(form, s)
		spoilTree(again)
		spoilForm(form)
		if got := fmt.Sprint(m, e, at); got != want {
			t.Errorf("P0.1: the tree is the caller's memory, or another answer's: %s, not %s", got, want)
		}
	}
}

// P0.1: no two nodes share memory: what is written over one's words, and behind them, changes no other.
func TestNodesAreApart(t *testing.T) {
	f := grown(t)
	for _, s := range []string{grownText, "{}", "{g:[{} {h:[{} {}]} {}] i:[{} {v:1}]}"} {
		want, _, _ := words.Parse(f, s)
		for _, back := range []bool{false, true} {
			m, _, _ := words.Parse(f, s)
			numbers := make([]int, len(m))
			for i := range m {
				numbers[i] = i
			}
			if back {
				slices.Reverse(numbers)
			}
			for n, i := range numbers {
				spoil(m[i].Words, 55)
				for _, k := range numbers[n+1:] {
					if !slices.Equal(m[k].Words, want[k].Words) {
						t.Fatalf("P0.1: the words of %d are those of %d", k, i)
					}
				}
			}
		}
	}
}

// within tells whether a text lies in another one's memory.
func within(s, whole string) bool {
	if s == "" || whole == "" {
		return false
	}
	at, from := uintptr(unsafe.Pointer(unsafe.StringData(s))), uintptr(unsafe.Pointer(unsafe.StringData(whole)))
	return at >= from && at < from+uintptr(len(whole))
}

// P0.1: no text that is handed in is kept in an answer: neither a form's names nor a piece of what is read, or a node's.
func TestTextsAreNew(t *testing.T) {
	f := grown(t)
	var all strings.Builder
	for _, x := range f.Tokens {
		all.WriteString(x.Name)
	}
	names, from := all.String(), 0
	f.Tokens = slices.Clone(f.Tokens)
	for i := range f.Tokens {
		n := len(f.Tokens[i].Name)
		f.Tokens[i].Name, from = names[from:from+n], from+n
	}
	s := strings.Clone(grownText)
	m, e, _ := words.Parse(f, s)
	if e != ok {
		t.Fatalf("Parse: %v", e)
	}
	for _, v := range m {
		for _, whole := range []string{names, s} {
			if within(v.Name, whole) || within(v.Text, whole) {
				t.Errorf("P0.1: the node %v has the caller's text", v)
			}
		}
	}
	// A text of one data alone might be handed out as it is.
	g := made(t, "d$8")
	list := tree("M d$hello")
	if out, _ := words.Print(g, list); within(out, list[1].Text) {
		t.Error("P0.1: the text is the caller's own")
	}
}

// P23.1, P23.2: what is answered hangs on the arguments alone: not on what was asked before.
func TestAgain(t *testing.T) {
	f := grown(t)
	first, _, _ := words.Parse(f, grownText)
	words.Parse(api.Form{}, "{}")
	words.Parse(f, "{a:1 a:2}")
	words.Parse(f, `{"`)
	words.Parse(made(t, chapter), chapterText)
	words.Print(f, first[:3])
	words.Print(made(t, chapter), tree(chapterTree))
	again, e, at := words.Parse(f, grownText)
	if e != ok || at != 0 || !value.Same(first, again) {
		t.Errorf("P0.1: asked again, another answer: %v, %v, %d", again, e, at)
	}
	for range 20 {
		if s, e := words.Print(f, first); e != ok || s != grownText {
			t.Errorf("P0.1: asked again, another text: %s, %v", s, e)
		}
	}
}
