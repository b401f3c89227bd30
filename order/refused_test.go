package order_test

import (
	"fmt"
	"math"
	"slices"
	"strings"
	"testing"

	"stencil/api"
	"stencil/ir"
	"stencil/order"
)

// wantNone asks New of a value that is no form.
func wantNone(t *testing.T, what string, f api.Form) {
	t.Helper()
	if e, _ := ir.Check(f); e != api.ErrTokens {
		t.Fatalf("%s: still a form: %d", what, e)
	}
	if m, e := order.New(f); m != nil || e != api.ErrTokens {
		t.Errorf("P14.1: %s: error %d, nil %v", what, e, m == nil)
	}
}

// place is that of the first token of a name.
func place(f api.Form, name string) int {
	return slices.IndexFunc(f.Tokens, func(x api.Token) bool { return x.Name == name })
}

// P14.1: each of ir.Check's points, of its form's head and of its tokens.
func TestNoForm(t *testing.T) {
	f := made(t, "a k! s+ g( x e$ ; h[ y ; d$")
	n := len(f.Tokens)
	set := func(name string, change func(x *api.Token)) func(f *api.Form) {
		return func(f *api.Form) { change(&f.Tokens[place(*f, name)]) }
	}
	next := func(name string, change func(x *api.Token)) func(f *api.Form) {
		return func(f *api.Form) { change(&f.Tokens[place(*f, name)+1]) }
	}
	for _, x := range []struct {
		what  string
		spoil func(f *api.Form)
	}{
		{"1: an order", func(f *api.Form) { f.Order = 2 }},
		{"1: a schema", func(f *api.Form) { f.Schema = 65536 }},
		{"1: a version", func(f *api.Form) { f.Version = -1 }},
		{"1: no head", func(f *api.Form) { f.Head = api.Head{} }},
		{"1: spots over one another", func(f *api.Form) { f.Head.Version.Offset = 11 }},
		{"2: no tokens", func(f *api.Form) { f.Tokens = nil }},
		{"2: an empty list", func(f *api.Form) { f.Tokens = f.Tokens[:0] }},
		{"2: without the last", func(f *api.Form) { f.Tokens = f.Tokens[:n-1] }},
		{"2: without the first", func(f *api.Form) { f.Tokens = paired(f.Tokens[1:]...) }},
		{"2: twice", func(f *api.Form) { f.Tokens = paired(append(f.Tokens, f.Tokens...)...) }},
		{"2: a field alone", func(f *api.Form) { f.Tokens = paired(f.Tokens[1:4]...) }},
		{"2: a group alone", func(f *api.Form) { i := place(*f, "g"); f.Tokens = paired(f.Tokens[i : f.Tokens[i].Pair+1]...) }},
		{"2: begins alone", func(f *api.Form) { f.Tokens = slices.Repeat(f.Tokens[:1], 5) }},
		{"2: ends alone", func(f *api.Form) { f.Tokens = slices.Repeat(f.Tokens[n-1:], 5) }},
		{"2: data ahead of a group", func(f *api.Form) {
			d := slices.Clone(f.Tokens[place(*f, "d") : place(*f, "d")+2])
			f.Tokens = paired(slices.Insert(f.Tokens[:n-3], place(*f, "g"), append(d, f.Tokens[n-1])...)...)
		}},
		{"2: an Op that is none", set("a", func(x *api.Token) { x.Op = -2 })},
		{"2: an Op beyond", set("a", func(x *api.Token) { x.Op = 16 })},
		{"2: another Op", set("g", func(x *api.Token) { x.Op = api.BeginMessage })},
		{"3: another name at the end", func(f *api.Form) { f.Tokens[3].Name = "b" }},
		{"3: no symbol", next("a", func(x *api.Token) { x.Name = "a b" })},
		{"3: a Pair", set("a", func(x *api.Token) { x.Pair++ })},
		{"3: the greatest Pair", func(f *api.Form) { f.Tokens[0].Pair = math.MaxInt }},
		{"3: the least Pair", func(f *api.Form) { f.Tokens[0].Pair = math.MinInt }},
		{"3: a Pair that is its own", set("g", func(x *api.Token) { x.Pair = place(f, "g") })},
		{"3: a Pair ahead", set("g", func(x *api.Token) { x.Pair = 0 })},
		{"3: a Value", set("a", func(x *api.Token) { x.Value = 1 })},
		{"4: an ID twice", set("g", func(x *api.Token) { x.ID = 10 })},
		{"4: a name twice", func(f *api.Form) {
			i := place(*f, "h")
			f.Tokens[i].Name, f.Tokens[f.Tokens[i].Pair].Name = "g", "g"
		}},
		{"5: a Since", set("e", func(x *api.Token) { x.Since = 1 })},
		{"6: a Block beyond Full", func(f *api.Form) { f.Tokens[0].Block++ }},
		{"6: a group's B", set("g", func(x *api.Token) { x.B.Prim = api.Uint64 })},
		{"6: a group's B that is none", set("g", func(x *api.Token) { x.B.Prim = -1 })},
		{"6: a group's B beyond its Size", set("g", func(x *api.Token) { x.B.Offset = 7 })},
		{"6: data's Size", set("d", func(x *api.Token) { x.Size = 1 })},
		{"7: a field's Size", set("a", func(x *api.Token) { x.Size = 2 })},
		{"7: a Presence", set("a", func(x *api.Token) { x.Presence = 3 })},
		{"8: an Offset", next("a", func(x *api.Token) { x.Offset = 1 })},
		{"9: a Length", next("a", func(x *api.Token) { x.Length = 0 })},
	} {
		g := tidy(f)
		x.spoil(&g)
		wantNone(t, x.what, g)
	}
	wantNone(t, "nothing", api.Form{})
	for i := range f.Tokens {
		g := tidy(f)
		g.Tokens = slices.Delete(g.Tokens, i, i+1)
		wantNone(t, fmt.Sprint("without ", i), g)
	}
}

// P14.1, P14.3: as many groups in one another as may be; one more is no form.
func TestNested(t *testing.T) {
	f := made(t, strings.Repeat("g( x ", api.MaxNest)+strings.Repeat("; ", api.MaxNest))
	m := begin(t, f)
	var places, left []int
	for i, x := range f.Tokens {
		if x.Op == api.BeginGroup {
			places = append(places, i)
		}
	}
	for i, inside := range places {
		take(t, m, "g="+fmt.Sprint(i+2))
		left = append(left, i+2)
		if !slices.Equal(m.Left(), left) || i > 0 && m.Inside() != places[i-1] {
			t.Fatalf("P14.3: inside %d, left %v", m.Inside(), m.Left())
		}
		take(t, m, "> x")
		left[i]--
		if !slices.Equal(m.Left(), left) || m.Inside() != inside {
			t.Fatalf("P14.3: inside %d, want %d; left %v, want %v", m.Inside(), inside, m.Left(), left)
		}
	}
	// Each next is of the innermost one that has entries to begin, and leaves those inside it.
	for i := len(places) - 1; i >= 0; i-- {
		for left[i] > 0 {
			left[i]--
			take(t, m, "> x")
			if !slices.Equal(m.Left(), left[:i+1]) || m.Inside() != places[i] || m.Done() {
				t.Fatalf("P14.3: inside %d, left %v, want %v", m.Inside(), m.Left(), left[:i+1])
			}
			if i+1 < len(places) {
				take(t, m, "g=0")
			}
		}
	}
	if !m.Done() {
		t.Error("P14.3: not done")
	}
	g := api.Form{Order: f.Order, Schema: f.Schema, Version: f.Version, Head: f.Head}
	inner := around(api.Token{Op: api.BeginGroup, Name: "g", ID: 99, Size: 7, A: spot(api.Uint16, 5), B: spot(api.Uint8, 1)})
	at := places[len(places)-1] + 4
	g.Tokens = paired(slices.Insert(slices.Clone(f.Tokens), at, inner...)...)
	wantNone(t, "nine groups in one another", g)
}
