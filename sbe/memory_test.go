package sbe_test

import (
	"fmt"
	"reflect"
	"runtime"
	"slices"
	"strings"
	"sync"
	"testing"
	"unsafe"
	"weak"

	"stencil/api"
	"stencil/sbe"
)

const calls = "field num 7\ngroup legs 1\nnext\nfield qty 3\ndata note \"more\""

// answers are all that a codec of the shop answers to some questions, right ones and wrong ones, as one text.
func answers(t *testing.T, c *sbe.Codec) string {
	var out strings.Builder
	tell := func(list ...any) { fmt.Fprintf(&out, "%+v\n", list) }
	tell(c.Schema())
	one, zero := raw(t, order1), raw(t, order0)
	for version := -1; version < 3; version++ {
		for _, name := range []string{"Order", "Offer"} {
			f, e := c.Form(name, version)
			tell(f, e)
			lines, b, e := c.Run(name, version, slices.Repeat([]byte{255}, 40), 3, calls)
			tell(lines, b, e)
			for reader, s := range []string{zero, one} {
				_, m, _, _ := c.Decode(reader, s)
				got, e := c.Encode(name, version, m)
				tell(got, e)
			}
		}
		for _, s := range []string{one, zero, one[:20], one + one, "", "x" + one} {
			name, m, n, e := c.Decode(version, s)
			tell(name, m, n, e)
			lines, e := c.Stream(version, [][]byte{[]byte(framed(60240, s)), []byte(framed(23520, s)), []byte("\x00\x00\x00\x05")})
			tell(lines, e)
		}
	}
	return out.String()
}

// P26.8: a codec answers the same whatever was asked before, and doesn't change when it is asked.
func TestAskedAgain(t *testing.T) {
	c, other := load(t, shop), load(t, shop)
	first := answers(t, c)
	for range 3 {
		if answers(t, c) != first {
			t.Fatal("P26.8: asked again, another answer")
		}
	}
	if !reflect.DeepEqual(c, other) {
		t.Error("P26.8: the codec that was asked is another one")
	}
	if answers(t, other) != first {
		t.Error("P26.8: two codecs of one text answer otherwise")
	}
}

// P26.8: one codec asked by many at once.
func TestAskedAtOnce(t *testing.T) {
	c := load(t, shop)
	first := answers(t, c)
	var all sync.WaitGroup
	for range 8 {
		all.Go(func() {
			for range 5 {
				if answers(t, c) != first {
					t.Error("P26.8: asked by several at once, another answer")
				}
			}
		})
	}
	all.Wait()
}

func spoilWords(list []uint64) {
	list = list[:cap(list)]
	for i := range list {
		list[i] = 99
	}
}

// spoilSchema, spoilForm, spoilTree and spoilLines write over all that an answer's lists have, the room behind them too.
func spoilSchema(s api.Schema) {
	types, parts := s.Types[:cap(s.Types)], s.Parts[:cap(s.Parts)]
	for i := range types {
		spoilWords(types[i].Const)
		values := types[i].Values[:cap(types[i].Values)]
		for k := range values {
			values[k] = api.Named{Name: "spoilt", Value: 5, Since: 5}
		}
		types[i] = api.TypeNode{Depth: 7, Name: "spoilt"}
	}
	for i := range parts {
		spoilWords(parts[i].Const)
		parts[i] = api.Part{Depth: 9, Name: "spoilt"}
	}
}

func spoilForm(f api.Form) {
	tokens := f.Tokens[:cap(f.Tokens)]
	for i := range tokens {
		spoilWords(tokens[i].Const)
		tokens[i] = api.Token{Op: 9, Name: "spoilt"}
	}
}

func spoilTree(m []api.Val) {
	m = m[:cap(m)]
	for i := range m {
		spoilWords(m[i].Words)
		m[i] = api.Val{Depth: 9, Name: "spoilt"}
	}
}

func spoilLines(lines []string) {
	lines = lines[:cap(lines)]
	for i := range lines {
		lines[i] = "spoilt"
	}
}

// P26.8: what is answered is new memory: it may be written over.
func TestAnswersAreNew(t *testing.T) {
	for _, text := range []string{shop, mixed} {
		c, again := both(t, text)
		before := c.Schema()
		for _, name := range []string{"Order", "All", "None", "Late"} {
			for version := range 4 {
				f, e := c.Form(name, version)
				if e != ok {
					continue
				}
				g, _ := c.Form(name, version)
				m := newDice(int64(version)).tree(f)
				s, _ := c.Encode(name, version, m)
				_, one, _, _ := c.Decode(version, s)
				_, two, _, _ := c.Decode(version, s)
				lines, _ := c.Stream(version, [][]byte{[]byte(framed([]int{60240, 23520}[before.Order], s))})
				told, b, _ := c.Run(name, version, make([]byte, 80), 0, "next")
				spoilForm(f)
				spoilTree(one)
				spoilLines(lines)
				spoilLines(told)
				for i := range b[:cap(b)] {
					b[:cap(b)][i] = 1
				}
				if want, _ := again.form(name, version); !sameForms(g, want) {
					t.Errorf("P26.8: the form of %s is another's memory", name)
				}
				if !sameNodes(two, m) {
					t.Errorf("P26.8: the tree of %s is another's memory: %v", name, two)
				}
				holdForm(t, c, again, name, version)
				holdDecode(t, c, again, version, s)
				holdRun(t, c, again, name, version, strings.Repeat("x", 80), 0, "next")
			}
		}
		other := c.Schema()
		spoilSchema(other)
		if !reflect.DeepEqual(before, again.s) || !reflect.DeepEqual(c.Schema(), again.s) {
			t.Error("P26.8: the schema is another's memory")
		}
	}
}

// P26.8: no two lists of a schema or form that is answered are one.
func TestListsAreApart(t *testing.T) {
	c := load(t, mixed)
	f, _ := c.Form("All", 3)
	var lists [][]uint64
	for i := range f.Tokens {
		lists = append(lists, f.Tokens[i].Const)
	}
	s := c.Schema()
	for i := range s.Types {
		lists = append(lists, s.Types[i].Const)
	}
	for i := range s.Parts {
		lists = append(lists, s.Parts[i].Const)
	}
	for n, list := range lists {
		for i := range list[:cap(list)] {
			list[:cap(list)][i] = uint64(n)
		}
	}
	for n, list := range lists {
		for _, w := range list[:cap(list)] {
			if w != uint64(n) {
				t.Errorf("P26.8: the list %d is the list %d too", n, w)
			}
		}
	}
}

// inside tells whether a text lies in another one's memory.
func inside(s, whole string) bool {
	if s == "" || whole == "" {
		return false
	}
	at, from := uintptr(unsafe.Pointer(unsafe.StringData(s))), uintptr(unsafe.Pointer(unsafe.StringData(whole)))
	return at < from+uintptr(len(whole)) && from < at+uintptr(len(s))
}

// texts are all that a codec of the shop answers.
func texts(t *testing.T, c *sbe.Codec) []string {
	s := c.Schema()
	list := []string{s.Package}
	for _, x := range s.Types {
		list = append(list, x.Name)
		for _, v := range x.Values {
			list = append(list, v.Name)
		}
	}
	for _, p := range s.Parts {
		list = append(list, p.Name)
	}
	f, _ := c.Form("Order", 1)
	for _, x := range f.Tokens {
		list = append(list, x.Name)
	}
	name, m, _, _ := c.Decode(1, raw(t, order1))
	list = append(list, name)
	for _, v := range m {
		list = append(list, v.Name, v.Text)
	}
	bytes, _ := c.Encode("Order", 1, m)
	lines, _ := c.Stream(1, [][]byte{[]byte(framed(60240, bytes))})
	told, _, _ := c.Run("Order", 1, make([]byte, 40), 0, "next")
	return slices.Concat(list, []string{bytes}, lines, told)
}

// P26.8: no text that is answered has the schema's text's memory, nor another answer's.
func TestTextsAreNew(t *testing.T) {
	schema := strings.Clone(shop)
	c := load(t, schema)
	one, two := texts(t, c), texts(t, c)
	for i, s := range one {
		if inside(s, schema) {
			t.Errorf("P26.8: %q is the schema's text", s)
		}
		for k, x := range two {
			// What is made of constants alone is no one's memory.
			if inside(s, x) && !strings.HasPrefix(s, "ok") && !strings.HasPrefix(s, "!") && s != "open" {
				t.Errorf("P26.8: the text %d, %q, is also the text %d", i, s, k)
			}
		}
	}
	lines := strings.Clone("messages\nencode Order 1 {note:\"as it stands\"}\n")
	got, _ := sbe.Dialog(schema, lines)
	if inside(got, schema) || inside(got, lines) {
		t.Error("P26.8: what is told is what was handed in")
	}
}

// P0.1: what is handed in isn't changed, the room behind it neither.
func TestArgumentsStay(t *testing.T) {
	c := load(t, shop)
	_, m, _, _ := c.Decode(1, raw(t, order1))
	for i := range m {
		m[i].Words = append(m[i].Words, 77, 78)[:len(m[i].Words)]
	}
	m = append(m, api.Val{Depth: 2, Name: "behind", Words: []uint64{7}})[:len(m)]
	opened := func() string {
		var out strings.Builder
		for _, v := range m[:cap(m)] {
			fmt.Fprintln(&out, v, v.Words[:cap(v.Words)])
		}
		return out.String()
	}
	was := opened()
	whole := []byte(framed(60240, raw(t, order1)) + framed(60240, raw(t, order0)) + "behind")
	bytes := string(whole)
	chunks := [][]byte{whole[:10], whole[10:33], whole[33 : len(whole)-6], nil, nil}
	for range 2 {
		for version := -1; version < 3; version++ {
			c.Encode("Order", version, m)
			c.Stream(version, chunks[:3])
			c.Run("Order", version, whole[:60], 0, calls)
		}
		if opened() != was {
			t.Fatal("P0.1: the tree is changed")
		}
		if string(whole) != bytes || chunks[3] != nil || len(chunks[1]) != 23 {
			t.Fatal("P0.1: the chunks are changed")
		}
	}
}

// P26.5, P26.6: no chunk and no buffer is kept, while the codec and what was told are still there.
func TestNothingIsKept(t *testing.T) {
	c := load(t, shop)
	var left []weak.Pointer[[200]byte]
	var kept []any
	buffer := func(s string) []byte {
		b := new([200]byte)
		copy(b[:], s)
		left = append(left, weak.Make(b))
		return b[:]
	}
	one := raw(t, order1)
	for version := -1; version < 3; version++ {
		lines, b, _ := c.Run("Order", version, buffer(one), 0, calls)
		kept = append(kept, lines, b)
		for _, s := range []string{framed(60240, one), framed(60240, one)[:20], "\x00\x00\x00\x05"} {
			lines, _ = c.Stream(version, [][]byte{buffer(s)[:len(s)], buffer(s)[:len(s)]})
			kept = append(kept, lines)
		}
		_, m, _, _ := c.Decode(version, string(buffer(one)))
		kept = append(kept, m)
	}
	runtime.GC()
	runtime.GC()
	for i, p := range left {
		if p.Value() != nil {
			t.Errorf("P0.1: the bytes of call %d are kept", i)
		}
	}
	runtime.KeepAlive(kept)
	runtime.KeepAlive(c)
}
