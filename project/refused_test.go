package project_test

import (
	"fmt"
	"math"
	"slices"
	"testing"

	"stencil/api"
	"stencil/ir"
	"stencil/project"
)

// wantNone asks all calls of a value that is no form.
func wantNone(t *testing.T, what string, f api.Form) {
	t.Helper()
	if e, _ := ir.Check(f); e != api.ErrTokens {
		t.Fatalf("%s: still a form: %d", what, e)
	}
	for _, version := range []int{math.MinInt, -1, 0, 1, 2, 3, 4, 5, math.MaxInt} {
		if g, e := project.At(f, version); e != api.ErrTokens || !alike(g, api.Form{}) {
			t.Errorf("P13.1: %s: At(%d): error %d\n%s", what, version, e, list(g))
		}
		for i := -1; i <= min(len(f.Tokens), 9); i++ {
			if project.Lives(f, i, version) {
				t.Errorf("P13.2: %s: Lives(%d, %d)", what, i, version)
			}
		}
	}
	if got := project.Versions(f); got != nil {
		t.Errorf("P13.3: %s: Versions %v", what, got)
	}
}

// find is the place of the part of a name path inside the message.
func find(t testing.TB, f api.Form, path ...string) int {
	t.Helper()
	i := 0
	for _, name := range path {
		if i = ir.Find(f, i, name); i < 0 {
			t.Fatalf("nothing at %v", path)
		}
	}
	return i
}

// P13.1 to P13.3: each of ir.Check's points, of its form's head and of its tokens.
func TestNoForm(t *testing.T) {
	f := grown()
	set := func(change func(x *api.Token), path ...string) func(f *api.Form) {
		return func(f *api.Form) { change(&f.Tokens[find(t, *f, path...)]) }
	}
	next := func(change func(x *api.Token), path ...string) func(f *api.Form) {
		return func(f *api.Form) { change(&f.Tokens[find(t, *f, path...)+1]) }
	}
	n := len(f.Tokens)
	for _, x := range []struct {
		what  string
		spoil func(f *api.Form)
	}{
		{"1: Order", func(f *api.Form) { f.Order = 2 }},
		{"1: Schema", func(f *api.Form) { f.Schema = -1 }},
		{"1: Version", func(f *api.Form) { f.Version = 65535 }},
		{"1: Version -1", func(f *api.Form) { f.Version = -1 }},
		{"1: Head.Size", func(f *api.Form) { f.Head.Size = 16 }},
		{"1: a spot over another", func(f *api.Form) { f.Head.Template.Offset = 3 }},
		{"1: a spot's Prim", func(f *api.Form) { f.Head.Block.Prim = api.Int32 }},
		{"1: Version in one byte", func(f *api.Form) { f.Version, f.Head.Version.Prim = 255, api.Uint8 }},
		{"2: no tokens", func(f *api.Form) { f.Tokens = nil }},
		{"2: an empty list", func(f *api.Form) { f.Tokens = []api.Token{} }},
		{"2: without the first", func(f *api.Form) { f.Tokens = f.Tokens[1:] }},
		{"2: without the first, paired", func(f *api.Form) { f.Tokens = paired(f.Tokens[1:]...) }},
		{"2: without the last", func(f *api.Form) { f.Tokens = f.Tokens[:n-1] }},
		{"2: without the last, paired", func(f *api.Form) { f.Tokens = paired(f.Tokens[:n-1]...) }},
		{"2: one token", func(f *api.Form) { f.Tokens = f.Tokens[:1] }},
		{"2: the end alone", func(f *api.Form) { f.Tokens = f.Tokens[n-1:] }},
		{"2: all twice", func(f *api.Form) { f.Tokens = paired(append(f.Tokens, f.Tokens...)...) }},
		{"2: ends alone", func(f *api.Form) { f.Tokens = slices.Repeat(f.Tokens[n-1:], 5) }},
		{"2: begins alone", func(f *api.Form) { f.Tokens = slices.Repeat(f.Tokens[:1], 5) }},
		{"2: Choices alone", func(f *api.Form) { f.Tokens = paired(choice("a", 1, 0), choice("b", 2, 0)) }},
		{"2: a group ahead of a field", func(f *api.Form) {
			g := slices.Clone(f.Tokens[find(t, *f, "n") : f.Tokens[find(t, *f, "n")].Pair+1])
			f.Tokens = paired(slices.Insert(f.Tokens, 1, g...)...)
		}},
		{"2: an Op that is none", func(f *api.Form) { f.Tokens[1].Op = -2 }},
		{"2: an Op beyond", func(f *api.Form) { f.Tokens[1].Op = 16 }},
		{"2: an end for a Choice", next(func(x *api.Token) { x.Op = api.EndSet }, "s")},
		{"2: nine groups in one another", func(f *api.Form) { *f = nested(9, 1) }},
		{"2: seventeen composites in one another", func(f *api.Form) { *f = nested(1, 17) }},
		{"3: a Value", set(func(x *api.Token) { x.Value = 1 }, "a")},
		{"3: a Block of a field", set(func(x *api.Token) { x.Block = 1 }, "a")},
		{"3: a Since of an Encoding", next(func(x *api.Token) { x.Since = 1 }, "a")},
		{"3: a Since of an end", func(f *api.Form) { f.Tokens[n-1].Since = 1 }},
		{"3: a Since of an enum", next(func(x *api.Token) { x.Since = 1 }, "e")},
		{"3: a name", set(func(x *api.Token) { x.Name = "b" }, "a")},
		{"3: no symbol", next(func(x *api.Token) { x.Name = "a b" }, "a")},
		{"3: a Pair", set(func(x *api.Token) { x.Pair++ }, "a")},
		{"3: a Pair of an Encoding", next(func(x *api.Token) { x.Pair++ }, "a")},
		{"3: a Pair beyond", func(f *api.Form) { f.Tokens[0].Pair = n }},
		{"3: the greatest Pair", func(f *api.Form) { f.Tokens[0].Pair = math.MaxInt }},
		{"3: the least Pair", func(f *api.Form) { f.Tokens[n-1].Pair = math.MinInt }},
		{"4: an ID twice", set(func(x *api.Token) { x.ID = 10 }, "e")},
		{"4: an ID beyond", set(func(x *api.Token) { x.ID = 65536 }, "e")},
		{"4: a name twice", func(f *api.Form) {
			i := find(t, *f, "e")
			f.Tokens[i].Name, f.Tokens[f.Tokens[i].Pair].Name = "a", "a"
		}},
		{"5: a message later than the Version", func(f *api.Form) { f.Version = 0 }},
		{"5: the message's Since", func(f *api.Form) { f.Tokens[0].Since = 2 }},
		{"5: the least Since", func(f *api.Form) { f.Tokens[0].Since = math.MinInt }},
		{"5: a field later than the Version", set(func(x *api.Token) { x.Since = 5 }, "z")},
		{"5: a field earlier than the one ahead", set(func(x *api.Token) { x.Since = 2 }, "s")},
		{"5: a group in a group, later", set(func(x *api.Token) { x.Since = 2 }, "g", "h")},
		{"5: data earlier than the group ahead", set(func(x *api.Token) { x.Since = 1 }, "d")},
		{"5: a Choice's Since", func(f *api.Form) { f.Tokens[find(t, *f, "e")+3].Since = 65535 }},
		{"6: a Block beyond Full", func(f *api.Form) { f.Tokens[0].Block = 51 }},
		{"6: Full beyond", func(f *api.Form) { f.Tokens[0].Full = 65536 }},
		{"6: a group's Size", set(func(x *api.Token) { x.Size = 4 }, "g")},
		{"6: a group's spots", set(func(x *api.Token) { x.B.Offset = 4 }, "g")},
		{"6: data's Size", set(func(x *api.Token) { x.Size = 4 }, "d")},
		{"7: a later field that is Required", set(func(x *api.Token) { x.Presence = api.Required }, "c")},
		{"7: an Offset", set(func(x *api.Token) { x.Offset = 18 }, "s")},
		{"7: a Size", set(func(x *api.Token) { x.Size = 3 }, "a")},
		{"7: a constant without Const", set(func(x *api.Token) { x.Const = nil }, "k")},
		{"7: a Block that ends ahead of a field", func(f *api.Form) { f.Tokens[0].Block = 21 }},
		{"8: an Offset right behind a field", next(func(x *api.Token) { x.Offset = 1 }, "a")},
		{"8: an enum's Presence", next(func(x *api.Token) { x.Presence = api.Optional }, "e")},
		{"9: a Length", next(func(x *api.Token) { x.Length = 0 }, "a")},
		{"9: a Null", next(func(x *api.Token) { x.Null = 1 << 16 }, "a")},
		{"10: a Choice's Value twice", func(f *api.Form) { f.Tokens[find(t, *f, "e")+4].Value = 1 }},
		{"10: a Choice's name twice", func(f *api.Form) { f.Tokens[find(t, *f, "e")+4].Name = "P" }},
		{"10: a bit beyond", func(f *api.Form) { f.Tokens[find(t, *f, "s")+3].Value = 16 }},
	} {
		g := tidy(f)
		x.spoil(&g)
		wantNone(t, x.what, g)
	}
	wantNone(t, "nothing", api.Form{})
}

// nested is a message with so many groups in one another, and a field with so many composites in one another.
func nested(groups, composites int) api.Form {
	var inner, body []api.Token
	for range composites {
		inner = around(api.Token{Op: api.BeginComposite, Name: "C"}, inner)
	}
	for i := range groups {
		body = group("g", 2+i, 0, 0, 0, body)
	}
	return formOf(3, around(api.Token{Op: api.BeginMessage, Name: "M"}, optional("f", 1, 0, 0, inner...), body))
}

// P13.1, P13.2: as many in one another as may be.
func TestNested(t *testing.T) {
	f := nested(api.MaxNest, api.MaxDepth)
	if !hold(t, f) {
		t.Fatalf("no form:\n%s", list(f))
	}
	follows(t, f)
	// All groups came at 2: nothing of them is there ahead.
	for i := range f.Tokens {
		if f.Tokens[i].Op == api.BeginGroup {
			f.Tokens[i].Since = 2
		}
	}
	if !hold(t, f) {
		t.Fatalf("no form:\n%s", list(f))
	}
	follows(t, f)
	if got := len(at(t, f, 1).Tokens); got != 4+2*api.MaxDepth {
		t.Errorf("P13.1: %d tokens", got)
	}
	// Each token by itself gone, with the pairs of the rest set anew or left.
	f = grown()
	for i := range f.Tokens {
		g := tidy(f)
		g.Tokens = slices.Delete(g.Tokens, i, i+1)
		if f.Tokens[i].Op != api.Choice {
			wantNone(t, fmt.Sprint("without ", i), g)
		}
		g.Tokens = paired(g.Tokens...)
		if hold(t, g) {
			follows(t, g)
		}
	}
}
