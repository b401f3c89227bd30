package codec_test

import (
	"bytes"
	"fmt"
	"reflect"
	"slices"
	"strings"
	"testing"
	"unsafe"

	"stencil/api"
	"stencil/codec"
)

// roomy is a list with room behind it, in which something stands.
func roomy[T any](list []T, mark T) []T {
	r := append(slices.Clone(list), mark, mark, mark)
	return r[:len(list)]
}

func roomyForm(f api.Form) api.Form {
	f.Tokens = slices.Clone(f.Tokens)
	for i := range f.Tokens {
		f.Tokens[i].Const = roomy(f.Tokens[i].Const, 77)
	}
	f.Tokens = roomy(f.Tokens, api.Token{Op: api.BeginGroup, Name: "behind", Const: []uint64{7}})
	return f
}

// openedForm is a copy of all that a form's lists have, the room behind them too.
func openedForm(f api.Form) api.Form {
	f.Tokens = slices.Clone(f.Tokens[:cap(f.Tokens)])
	for i := range f.Tokens {
		f.Tokens[i].Const = slices.Clone(f.Tokens[i].Const[:cap(f.Tokens[i].Const)])
	}
	return f
}

func overwriteForm(f api.Form) {
	ts := f.Tokens[:cap(f.Tokens)]
	for i := range ts {
		words := ts[i].Const[:cap(ts[i].Const)]
		for k := range words {
			words[k] = 99
		}
		ts[i] = api.Token{Name: "other", Const: []uint64{98}}
	}
}

func roomyNodes(m []api.Val) []api.Val {
	m = slices.Clone(m)
	for i := range m {
		m[i].Words = roomy(m[i].Words, 77)
	}
	return roomy(m, api.Val{Depth: 2, Kind: api.ValData, Name: "d", Words: []uint64{7}})
}

func openedNodes(m []api.Val) []api.Val {
	m = slices.Clone(m[:cap(m)])
	for i := range m {
		m[i].Words = slices.Clone(m[i].Words[:cap(m[i].Words)])
	}
	return m
}

// spoilNodes writes over a list, its nodes' words and the room behind them all.
func spoilNodes(m []api.Val) {
	all := m[:cap(m)]
	for i := range all {
		words := all[i].Words[:cap(all[i].Words)]
		for k := range words {
			words[k] = 55
		}
		_ = append(all[i].Words, 56, 57)
		all[i] = api.Val{Depth: -5, Kind: 9, Name: "spoiled", Words: []uint64{5}, Text: "spoiled"}
	}
	_ = append(m, api.Val{Kind: 8}, api.Val{Kind: 8})
}

// answers are all that the calls answer, as one text; b is written to by Encode.
func answers(f api.Form, m []api.Val, b []byte, s string) string {
	var out strings.Builder
	for reader := -1; reader <= f.Version+1; reader++ {
		for _, at := range []int{-1, 0, 3, 4} {
			seen, n, e := codec.Decode(f, reader, b, at)
			fmt.Fprintln(&out, show(seen), n, e)
			n, e = codec.Length(f, b, at)
			fmt.Fprintln(&out, n, e)
		}
		turned, e := codec.Turn(f, s, reader)
		fmt.Fprintf(&out, "%q %d\n", turned, e)
	}
	made, e := codec.Bytes(f, m)
	fmt.Fprintf(&out, "%q %d\n", made, e)
	for _, at := range []int{-1, len(b), len(b) + 1, 3} {
		n, e := codec.Encode(f, m, b, at)
		fmt.Fprintln(&out, n, e, b)
	}
	return out.String()
}

// P20.7: nothing that is handed in is changed, nor the room behind it; what stands there is no matter.
func TestArgumentsStay(t *testing.T) {
	whole := grown(t)
	none := grown(t)
	none.Tokens = none.Tokens[:len(none.Tokens)-1]
	for version := 1; version <= 4; version++ {
		s := string(written(t, whole, version, grownTree(version)))
		for _, f := range []api.Form{whole, then(t, whole, version), none} {
			for cut := range 3 {
				plain := grownTree(version)
				plain = plain[:len(plain)-cut]
				buffer := append([]byte("???"), s...)
				form, nodes := roomyForm(f), roomyNodes(plain)
				room := append(slices.Clone(buffer), "behind the buffer"...)
				wantForm, wantNodes := openedForm(form), openedNodes(nodes)
				n := len(buffer)
				if got, want := answers(form, nodes, room[:n], s), answers(f, plain, buffer, s); got != want {
					t.Errorf("P20.7: with room behind: %s\nwant\n%s", got, want)
				}
				if !reflect.DeepEqual(openedForm(form), wantForm) {
					t.Error("P20.7: the form is changed")
				}
				if !reflect.DeepEqual(openedNodes(nodes), wantNodes) {
					t.Error("P20.7: the nodes are changed")
				}
				if string(room[n:]) != "behind the buffer" || string(room[:3]) != "???" {
					t.Error("P20.7: what lies about the message is changed")
				}
			}
		}
	}
}

// P20.7, P20.3: no byte of a buffer is changed by what reads it, whatever the bytes.
func TestReadingWritesNothing(t *testing.T) {
	f := grown(t)
	b := append(written(t, f, 3, grownTree(3)), noise(10, 1)...)
	for n := range len(b) {
		for at := range 3 {
			whole := slices.Clone(b)
			for reader := 1; reader <= 4; reader++ {
				codec.Decode(f, reader, whole[:n], at)
			}
			codec.Length(f, whole[:n], at)
			if !bytes.Equal(whole, b) {
				t.Fatalf("P20.7: the first %d bytes, read at %d, are changed", n, at)
			}
		}
	}
}

// P20.7: answers are new memory: no two lists of one answer share any, no two answers do, and none shares any with what was handed in.
func TestAnswersAreNew(t *testing.T) {
	for reader := 1; reader <= 4; reader++ {
		for version := 1; version <= 4; version++ {
			f := roomyForm(grown(t))
			b := roomy(written(t, f, version, grownTree(version)), 7)
			form, was := openedForm(f), slices.Clone(b[:cap(b)])
			ask := func() []api.Val {
				m, _, e := codec.Decode(f, reader, b, 0)
				if e != ok {
					t.Fatal(e)
				}
				return m
			}
			one, two := ask(), ask()
			want := show(one)
			spoilNodes(one)
			if show(two) != want || show(ask()) != want {
				t.Error("P20.7: two answers share memory")
			}
			if !reflect.DeepEqual(openedForm(f), form) || !bytes.Equal(b[:cap(b)], was) {
				t.Error("P20.7: the answer shares memory with what was handed in")
			}
			overwriteForm(f)
			for i := range b[:cap(b)] {
				b[:cap(b)][i] = 0xAA
			}
			if show(two) != want {
				t.Error("P20.7: the answer is the caller's memory")
			}
			for i := range two {
				words := two[i].Words[:cap(two[i].Words)]
				for k := range words {
					words[k] = uint64(1000 + i)
				}
			}
			for i, v := range two {
				for _, w := range v.Words[:cap(v.Words)] {
					if w != uint64(1000+i) {
						t.Errorf("P20.7: the words of %d are those of %d too", i, w-1000)
					}
				}
			}
		}
	}
}

// P20.7: what was written stays when the tree and the form are written over.
func TestWrittenStays(t *testing.T) {
	f, m := roomyForm(grown(t)), roomyNodes(grownTree(4))
	want := string(written(t, f, 4, grownTree(4)))
	b := noise(len(want), 1)
	n, e := codec.Encode(f, m, b, 0)
	s, err := codec.Bytes(f, m)
	turned, wrong := codec.Turn(f, want, 4)
	spoilNodes(m)
	overwriteForm(f)
	if n != len(want) || e != ok || string(b) != want || s != want || err != ok || turned != want || wrong != ok {
		t.Errorf("P20.7: Encode = %d, %v: %s\nBytes = %s, %v\nTurn = %s, %v\nwant %s", n, e, head(b), head(s), err, head(turned), wrong, head(want))
	}
	for i := range b {
		b[i] = 1
	}
	if s != want {
		t.Error("P20.7: Bytes' answer is the buffer of Encode")
	}
}

// inside tells whether a text lies in another one's memory.
func inside(s, whole string) bool {
	if s == "" || whole == "" {
		return false
	}
	at, from := uintptr(unsafe.Pointer(unsafe.StringData(s))), uintptr(unsafe.Pointer(unsafe.StringData(whole)))
	return at >= from && at < from+uintptr(len(whole))
}

// P20.7: no text that is handed in is kept in an answer, nor any byte of the buffer.
func TestTextsAreNew(t *testing.T) {
	f := grown(t)
	// All names of the form in one text, so that what is kept of them shows.
	var joined strings.Builder
	for _, x := range f.Tokens {
		joined.WriteString(x.Name)
	}
	names, from := joined.String(), 0
	for i, x := range f.Tokens {
		f.Tokens[i].Name, from = names[from:from+len(x.Name)], from+len(x.Name)
	}
	for version := 1; version <= 4; version++ {
		b := written(t, f, version, grownTree(version))
		whole := unsafe.String(&b[0], len(b))
		for reader := 1; reader <= 4; reader++ {
			m, _, e := codec.Decode(f, reader, b, 0)
			if e != ok {
				t.Fatal(e)
			}
			for _, v := range m {
				for _, given := range []string{names, whole} {
					if inside(v.Name, given) || inside(v.Text, given) {
						t.Fatalf("P20.7: %q or %q is the caller's own", v.Name, v.Text)
					}
				}
			}
			s := string(b)
			if turned, e := codec.Turn(f, s, reader); e != ok || inside(turned, s) {
				t.Fatalf("P20.7: Turn to %d: the caller's own text, or %v", reader, e)
			}
		}
	}
}

// P20.1 to P20.5: what is answered hangs on the arguments alone: not on what was asked before.
func TestAgain(t *testing.T) {
	f := grown(t)
	s := string(written(t, f, 2, grownTree(2)))
	ask := func() string { return answers(f, grownTree(4), append([]byte("???"), s...), s) }
	first := ask()
	codec.Decode(f, 9, nil, 0)
	codec.Decode(f, 4, []byte(s[:20]), 0)
	codec.Encode(f, grownTree(1), noise(300, 1), 5)
	codec.Turn(api.Form{}, s, 1)
	if ask() != first {
		t.Error("P20.7: asked again, another answer")
	}
}
