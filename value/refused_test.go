package value_test

import (
	"fmt"
	"math"
	"slices"
	"testing"

	"stencil/api"
	"stencil/ir"
	"stencil/value"
)

// wantTokens asks all calls of a value that is no form.
func wantTokens(t *testing.T, what string, f api.Form) {
	t.Helper()
	if e, _ := ir.Check(f); e != api.ErrTokens {
		t.Fatalf("%s: still a form: %d", what, e)
	}
	for _, m := range [][]api.Val{nil, {}, tree(chapterTree), tree("M"), {{Kind: -1}}} {
		if e, at := value.Check(f, m); e != api.ErrTokens || at != -1 {
			t.Errorf("P16.1: %s: Check = %d, %d", what, e, at)
		}
		for _, v := range []int{-1, 0, 1, 2, 3, math.MaxInt} {
			got, e := value.Project(f, m, v, 1)
			wantErr(t, "P16.3: "+what, got, e, api.ErrTokens)
			got, e = value.Project(f, m, 2, v)
			wantErr(t, "P16.3: "+what, got, e, api.ErrTokens)
		}
		if n, e := value.Size(f, m); e != api.ErrTokens || n != 0 {
			t.Errorf("P16.4: %s: Size = %d, %d", what, n, e)
		}
		if cs, e := value.Calls(f, m); e != api.ErrTokens || len(cs) != 0 {
			t.Errorf("P16.5: %s: Calls = %v, %d", what, cs, e)
		}
		if odd := value.Odd(f, m); len(odd) != 0 {
			t.Errorf("P16.7: %s: Odd = %d", what, odd)
		}
	}
	for _, cs := range [][]api.Call{nil, calls("a:9 b:-2 c:7 g=1 > x:4 e$ d$hi"), calls("a:256"), {{Kind: -1}}} {
		got, e := value.Tree(f, cs)
		wantErr(t, "P16.6: "+what, got, e, api.ErrTokens)
	}
	got, e := value.Nulls(f)
	wantErr(t, "P16.2: "+what, got, e, api.ErrTokens)
}

// place is that of the first token of a name.
func place(f api.Form, name string) int {
	return slices.IndexFunc(f.Tokens, func(x api.Token) bool { return x.Name == name })
}

// P16.1 to P16.7: each of ir.Check's points, of a form's head and of its tokens.
func TestNoForm(t *testing.T) {
	f := chapter(t)
	n := len(f.Tokens)
	set := func(name string, change func(x *api.Token)) func(f *api.Form) {
		return func(f *api.Form) { change(&f.Tokens[place(*f, name)]) }
	}
	for _, x := range []struct {
		what  string
		spoil func(f *api.Form)
	}{
		{"1: an order", func(f *api.Form) { f.Order = 2 }},
		{"1: a schema", func(f *api.Form) { f.Schema = 65536 }},
		{"1: a version", func(f *api.Form) { f.Version = -1 }},
		{"1: no head", func(f *api.Form) { f.Head = api.Head{} }},
		{"2: no tokens", func(f *api.Form) { f.Tokens = nil }},
		{"2: an empty list", func(f *api.Form) { f.Tokens = f.Tokens[:0] }},
		{"2: without the last", func(f *api.Form) { f.Tokens = f.Tokens[:n-1] }},
		{"2: without the first", func(f *api.Form) { f.Tokens = paired(f.Tokens[1:]...) }},
		{"2: twice", func(f *api.Form) { f.Tokens = paired(append(f.Tokens, f.Tokens...)...) }},
		{"2: a group alone", func(f *api.Form) { i := place(*f, "g"); f.Tokens = paired(f.Tokens[i : f.Tokens[i].Pair+1]...) }},
		{"2: begins alone", func(f *api.Form) { f.Tokens = slices.Repeat(f.Tokens[:1], 5) }},
		{"2: ends alone", func(f *api.Form) { f.Tokens = slices.Repeat(f.Tokens[n-1:], 5) }},
		{"2: an Op that is none", set("a", func(x *api.Token) { x.Op = -2 })},
		{"2: an Op beyond", set("a", func(x *api.Token) { x.Op = 16 })},
		{"3: another name at the end", func(f *api.Form) { f.Tokens[3].Name = "b" }},
		{"3: no symbol", func(f *api.Form) { f.Tokens[2].Name = "a b" }},
		{"3: the greatest Pair", func(f *api.Form) { f.Tokens[0].Pair = math.MaxInt }},
		{"3: the least Pair", func(f *api.Form) { f.Tokens[0].Pair = math.MinInt }},
		{"3: a Pair that is its own", set("g", func(x *api.Token) { x.Pair = place(f, "g") })},
		{"3: a Pair ahead", set("g", func(x *api.Token) { x.Pair = 0 })},
		{"4: an ID twice", set("g", func(x *api.Token) { x.ID = 10 })},
		{"5: a Since", set("e", func(x *api.Token) { x.Since = 1 })},
		{"5: a Since beyond", set("d", func(x *api.Token) { x.Since = 3 })},
		{"6: a Block beyond Full", func(f *api.Form) { f.Tokens[0].Block++ }},
		{"6: a group's B that is none", set("g", func(x *api.Token) { x.B.Prim = -1 })},
		{"6: a length that is none", set("d", func(x *api.Token) { x.A.Prim = api.Uint64 })},
		{"7: a Presence", set("a", func(x *api.Token) { x.Presence = 3 })},
		{"8: an Offset", func(f *api.Form) { f.Tokens[2].Offset = 1 }},
		{"9: a Length", func(f *api.Form) { f.Tokens[2].Length = 0 }},
		{"9: a Length beyond", func(f *api.Form) { f.Tokens[2].Length = math.MaxInt }},
		{"9: a Null", func(f *api.Form) { f.Tokens[2].Null = 256 }},
	} {
		g := tidy(f)
		x.spoil(&g)
		wantTokens(t, x.what, g)
	}
	wantTokens(t, "nothing", api.Form{})
	for i := range f.Tokens {
		g := tidy(f)
		g.Tokens = slices.Delete(g.Tokens, i, i+1)
		wantTokens(t, fmt.Sprint("without ", i), g)
	}
}

// P16.10: the work is about linear in the list and the form: of many fields, calls, entries and Choices each call ends soon.
func TestManyOfAll(t *testing.T) {
	var choices []uint64
	for i := range uint64(60000) {
		choices = append(choices, i*7919%65521)
	}
	many := []bit{field("e", enum(one(api.Uint16), choices...), optional)}
	for i := range 20000 {
		many = append(many, field(fmt.Sprint("f", i), one(api.Uint8)))
	}
	f := made(t, 0, append(many, plain("g", api.Uint32, field("e", enum(one(api.Uint16), choices...), optional), plain("h", api.Uint8)), data("d", api.Uint8))...)
	var cs []api.Call
	for k := range 3 {
		for i := range 20000 {
			cs = append(cs, api.Call{Name: fmt.Sprint("f", 19999-i), Words: []uint64{uint64((i + k) % 200)}})
		}
	}
	const n = 60000
	cs = append(cs, api.Call{Kind: api.CallGroup, Name: "g", Count: n})
	for i := range n {
		cs = append(cs, api.Call{Kind: api.CallNext}, api.Call{Name: "e", Words: []uint64{uint64(i)}}, api.Call{Kind: api.CallGroup, Name: "h"})
	}
	cs = append(cs, api.Call{Kind: api.CallData, Name: "d", Text: "d"})
	m, e := value.Tree(f, cs)
	if e != ok || len(m) != 2+20000+1+3*n+1 || m[2].Words[0] != (19999+2)%200 {
		t.Fatalf("P16.6: Tree: %d nodes, %d", len(m), e)
	}
	if e, at := value.Check(f, m); e != ok || at != 0 {
		t.Errorf("P16.1: Check = %d, %d", e, at)
	}
	if size, e := value.Size(f, m); e != ok || size != 8+2+20000+6+n*(2+3)+2 {
		t.Errorf("P16.4: Size = %d, %d", size, e)
	}
	back, e := value.Calls(f, m)
	if e != ok || len(back) != len(m)-1 || back[20001].Count != n {
		t.Errorf("P16.5: Calls: %d calls, %d", len(back), e)
	}
	again, e := value.Tree(f, back)
	if e != ok || !value.Same(again, m) {
		t.Errorf("P16.9: Tree of Calls: %d", e)
	}
	if got, e := value.Project(f, m, 0, 0); e != ok || !value.Same(got, m) {
		t.Errorf("P16.3: Project: %d", e)
	}
	known := map[uint64]int{}
	for _, c := range choices {
		known[c] = 1
	}
	want := 0
	for i := range uint64(n) {
		want += 1 - known[i]
	}
	if got := value.Odd(f, m); len(got) != want || !slices.IsSorted(got) || want == 0 {
		t.Errorf("P16.7: %d are odd, want %d", len(got), want)
	}
	nulls, e := value.Nulls(f)
	if e != ok || len(nulls) != 2+20000+2 {
		t.Errorf("P16.2: Nulls: %d nodes, %d", len(nulls), e)
	}
}
