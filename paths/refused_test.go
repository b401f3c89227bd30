package paths_test

import (
	"fmt"
	"math"
	"slices"
	"strings"
	"testing"

	"stencil/api"
	"stencil/ir"
	"stencil/paths"
)

// wantTokens asks all calls of a value that is no form.
func wantTokens(t *testing.T, what string, f api.Form) {
	t.Helper()
	if e, _ := ir.Check(f); e != api.ErrTokens {
		t.Fatalf("%s: still a form: %d", what, e)
	}
	for _, cs := range [][]api.Call{nil, calls("a"), calls("d$ d$"), {kind(-1, "")}, calls("a g=-1")} {
		if e, at := paths.Accepts(f, cs); e != api.ErrTokens || at != 0 {
			t.Errorf("P15.1: %s: Accepts of %s = %d, %d", what, say(cs), e, at)
		}
		if got, e := paths.Next(f, cs); e != api.ErrTokens || len(got) != 0 {
			t.Errorf("P15.2: %s: Next of %s = %v, %d", what, say(cs), got, e)
		}
		if got, e := paths.Shortest(f, cs); e != api.ErrTokens || len(got) != 0 {
			t.Errorf("P15.3: %s: Shortest of %s = %v, %d", what, say(cs), got, e)
		}
		for _, n := range []int{-1, 0, 5, 13} {
			if got, e := paths.Count(f, cs, n, n/4); e != api.ErrTokens || got != 0 {
				t.Errorf("P15.4: %s: Count of %s, %d = %d, %d", what, say(cs), n, got, e)
			}
		}
	}
	for most := -1; most < 5; most++ {
		for cs := range paths.Walk(f, most) {
			t.Fatalf("P15.5: %s: Walk has %s", what, say(cs))
		}
	}
}

// place is that of the first token of a name.
func place(f api.Form, name string) int {
	return slices.IndexFunc(f.Tokens, func(x api.Token) bool { return x.Name == name })
}

// P15.1 to P15.5: each of ir.Check's points, of a form's head and of its tokens.
func TestNoForm(t *testing.T) {
	f := made(t, "a k! s+ g( x e$ ; h[ y ; d$")
	n := len(f.Tokens)
	set := func(name string, change func(x *api.Token)) func(f *api.Form) {
		return func(f *api.Form) { change(&f.Tokens[place(*f, name)]) }
	}
	for _, x := range []struct {
		what  string
		spoil func(f *api.Form)
	}{
		{"1: an order", func(f *api.Form) { f.Order = 2 }},
		{"1: a schema", func(f *api.Form) { f.Schema = 65536 }},
		{"1: a version", func(f *api.Form) { f.Version = -1 }},
		{"1: no head", func(f *api.Form) { f.Head = api.Head{} }},
		{"2: no tokens", func(f *api.Form) { f.Tokens = nil }},
		{"2: an empty list", func(f *api.Form) { f.Tokens = f.Tokens[:0] }},
		{"2: without the last", func(f *api.Form) { f.Tokens = f.Tokens[:n-1] }},
		{"2: without the first", func(f *api.Form) { f.Tokens = paired(f.Tokens[1:]...) }},
		{"2: twice", func(f *api.Form) { f.Tokens = paired(append(f.Tokens, f.Tokens...)...) }},
		{"2: a group alone", func(f *api.Form) { i := place(*f, "g"); f.Tokens = paired(f.Tokens[i : f.Tokens[i].Pair+1]...) }},
		{"2: begins alone", func(f *api.Form) { f.Tokens = slices.Repeat(f.Tokens[:1], 5) }},
		{"2: ends alone", func(f *api.Form) { f.Tokens = slices.Repeat(f.Tokens[n-1:], 5) }},
		{"2: an Op that is none", set("a", func(x *api.Token) { x.Op = -2 })},
		{"2: an Op beyond", set("a", func(x *api.Token) { x.Op = 16 })},
		{"3: another name at the end", func(f *api.Form) { f.Tokens[3].Name = "b" }},
		{"3: no symbol", func(f *api.Form) { f.Tokens[2].Name = "a b" }},
		{"3: the greatest Pair", func(f *api.Form) { f.Tokens[0].Pair = math.MaxInt }},
		{"3: the least Pair", func(f *api.Form) { f.Tokens[0].Pair = math.MinInt }},
		{"3: a Pair that is its own", set("g", func(x *api.Token) { x.Pair = place(f, "g") })},
		{"3: a Pair ahead", set("g", func(x *api.Token) { x.Pair = 0 })},
		{"4: an ID twice", set("g", func(x *api.Token) { x.ID = 10 })},
		{"4: a name twice", func(f *api.Form) {
			i := place(*f, "h")
			f.Tokens[i].Name, f.Tokens[f.Tokens[i].Pair].Name = "g", "g"
		}},
		{"5: a Since", set("e", func(x *api.Token) { x.Since = 1 })},
		{"6: a Block beyond Full", func(f *api.Form) { f.Tokens[0].Block++ }},
		{"6: a group's B that is none", set("g", func(x *api.Token) { x.B.Prim = -1 })},
		{"7: a Presence", set("a", func(x *api.Token) { x.Presence = 3 })},
		{"8: an Offset", func(f *api.Form) { f.Tokens[2].Offset = 1 }},
		{"9: a Length", func(f *api.Form) { f.Tokens[2].Length = 0 }},
	} {
		g := tidy(f)
		x.spoil(&g)
		wantTokens(t, x.what, g)
	}
	wantTokens(t, "nothing", api.Form{})
	for i := range f.Tokens {
		g := tidy(f)
		g.Tokens = slices.Delete(g.Tokens, i, i+1)
		wantTokens(t, fmt.Sprint("without ", i), g)
	}
}

// P15.2 to P15.5: as many groups in one another as may be.
func TestNested(t *testing.T) {
	f := made(t, strings.Repeat("g( x ", api.MaxNest)+strings.Repeat("; ", api.MaxNest))
	wantNext(t, f, nil, "g=0")
	front := ""
	for i := range api.MaxNest {
		front += "g=2 "
		wantNext(t, f, calls(front), ">")
		front += "> "
		inside := "x g=0"
		if i == api.MaxNest-1 {
			inside = "x >"
		}
		wantNext(t, f, calls(front), inside)
		wantNext(t, f, calls(front+"x"), inside)
	}
	wantShortest(t, f, calls(front), ">"+strings.Repeat(" > g=0", api.MaxNest-1))
	// The second entry of each, from the innermost on: behind the last one nothing but its field is left.
	wantNext(t, f, calls(front+">"), "x >")
	wantNext(t, f, calls(front+"> >"), "x g=0")
	wantNext(t, f, calls(front+">"+strings.Repeat(" > g=0", api.MaxNest-2)+" >"), "x g=0")
	wantNext(t, f, calls(front+">"+strings.Repeat(" > g=0", api.MaxNest-2)+" > g=1 >"), "x g=0")
	wantNext(t, f, calls(front+">"+strings.Repeat(" > g=0", api.MaxNest-1)), "")
	for n := range 7 {
		wantCount(t, f, calls(front), n, 3, brute(t, f, calls(front), n, 3))
	}
	follows(t, f, blocks(f), 3, 2000)
}
