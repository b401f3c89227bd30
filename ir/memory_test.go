package ir_test

import (
	"fmt"
	"reflect"
	"slices"
	"strings"
	"testing"
	"unsafe"

	"stencil/api"
	"stencil/ir"
	"stencil/schema"
	"stencil/types"
)

// roomy is a list with room behind it, in which something stands.
func roomy[T any](list []T, mark T) []T {
	r := append(slices.Clone(list), mark, mark, mark)
	return r[:len(list)]
}

func roomySchema(s api.Schema) api.Schema {
	s = copied(s)
	for i := range s.Types {
		s.Types[i].Const = roomy(s.Types[i].Const, 77)
		s.Types[i].Values = roomy(s.Types[i].Values, api.Named{Name: "behind", Value: 77})
	}
	for i := range s.Parts {
		s.Parts[i].Const = roomy(s.Parts[i].Const, 77)
	}
	s.Types = roomy(s.Types, api.TypeNode{Depth: 2, Name: "behind", Const: []uint64{7}})
	s.Parts = roomy(s.Parts, api.Part{Depth: 2, Kind: api.PartField, Name: "behind", Const: []uint64{7}})
	return s
}

// openedSchema is a copy of all that a schema's lists have, the room behind them too.
func openedSchema(s api.Schema) api.Schema {
	s.Types, s.Parts = slices.Clone(s.Types[:cap(s.Types)]), slices.Clone(s.Parts[:cap(s.Parts)])
	for i := range s.Types {
		n := &s.Types[i]
		n.Const, n.Values = slices.Clone(n.Const[:cap(n.Const)]), slices.Clone(n.Values[:cap(n.Values)])
	}
	for i := range s.Parts {
		s.Parts[i].Const = slices.Clone(s.Parts[i].Const[:cap(s.Parts[i].Const)])
	}
	return s
}

func roomyForm(f api.Form) api.Form {
	f = tidy(f)
	for i := range f.Tokens {
		f.Tokens[i].Const = roomy(f.Tokens[i].Const, 77)
	}
	f.Tokens = roomy(f.Tokens, api.Token{Op: api.BeginGroup, Name: "behind", Const: []uint64{7}})
	return f
}

func openedForm(f api.Form) api.Form {
	f.Tokens = slices.Clone(f.Tokens[:cap(f.Tokens)])
	for i := range f.Tokens {
		f.Tokens[i].Const = slices.Clone(f.Tokens[i].Const[:cap(f.Tokens[i].Const)])
	}
	return f
}

// The chapter's first lines: nothing that is handed in is changed, nor the room behind it; what stands there is no matter.
func TestArgumentsStay(t *testing.T) {
	invalid := copied(oddSchema(t))
	invalid.Parts[3].Offset = -1
	for _, s := range []api.Schema{oddSchema(t), chapterM(t), invalid, {}} {
		want := openedSchema(roomySchema(s))
		r := roomySchema(s)
		for i := -1; i <= len(s.Parts)+1; i++ {
			f, e := ir.Compile(r, i)
			if g, err := ir.Compile(s, i); e != err || !alike(f, g) {
				t.Errorf("P12.1: Compile(%d) with room behind: error %d, want %d", i, e, err)
			}
		}
		if all, _ := ir.All(s); len(all) > 0 {
			again, _ := ir.All(r)
			if !slices.EqualFunc(all, again, alike) {
				t.Error("P12.1: All with room behind is another")
			}
		}
		if !reflect.DeepEqual(openedSchema(r), want) {
			t.Errorf("changed: %+v\nwant %+v", openedSchema(r), want)
		}
	}
	short := wide()
	short.Tokens = short.Tokens[:len(short.Tokens)-1]
	for _, f := range append(oddForms(t), chapterForm(t), wide(), short, api.Form{}) {
		r := roomyForm(f)
		want := openedForm(roomyForm(f))
		e, at := ir.Check(r)
		if err, n := ir.Check(f); e != err || at != n {
			t.Errorf("P12.2: Check with room behind: error %d, %d; want %d, %d", e, at, err, n)
		}
		for i := -1; i <= len(f.Tokens)+1; i++ {
			for range ir.Parts(r, i) {
			}
			for range ir.Leaves(r, i) {
			}
			ir.Find(r, i, "d")
		}
		ir.Show(r)
		if !reflect.DeepEqual(openedForm(r), want) {
			t.Errorf("changed: %+v\nwant %+v", openedForm(r), want)
		}
	}
}

// overwrite changes all that a form has, the room behind its lists too.
func overwrite(f api.Form) {
	ts := f.Tokens[:cap(f.Tokens)]
	for i := range ts {
		words := ts[i].Const[:cap(ts[i].Const)]
		for k := range words {
			words[k] = 99
		}
		ts[i] = api.Token{Name: "other", Const: []uint64{98}}
	}
}

// The chapter's first lines: answers share no memory with what was handed in, nor with one another.
func TestAnswersAreNew(t *testing.T) {
	s := oddSchema(t)
	want := copied(s)
	forms := oddForms(t)
	for i := range forms {
		f, e := ir.All(s)
		if e != api.OK {
			t.Fatal(e)
		}
		overwrite(f[i])
		for k := range forms {
			if k != i && !alike(f[k], forms[k]) {
				t.Errorf("P12.1: the form %d of All shares memory with the form %d", k, i)
			}
		}
		extra := f[:cap(f)]
		for k := range extra {
			extra[k] = api.Form{}
		}
	}
	place := schema.Message(s, "All")
	f, g := compile(t, s, place), compile(t, s, place)
	overwrite(f)
	if !alike(g, forms[1]) || !alike(compile(t, s, place), forms[1]) {
		t.Error("P12.1: two answers of Compile share memory")
	}
	if !schema.Same(s, want) {
		t.Error("P12.1: what was answered shares memory with the schema")
	}
	// The lists of one form: each Const by itself.
	f = compile(t, s, place)
	for i := range f.Tokens {
		words := f.Tokens[i].Const[:cap(f.Tokens[i].Const)]
		for k := range words {
			words[k] = uint64(1000 + i)
		}
	}
	for i, x := range f.Tokens {
		for _, w := range x.Const[:cap(x.Const)] {
			if w != uint64(1000+i) {
				t.Errorf("P12.1: the Const of %d is that of %d too", i, w-1000)
			}
		}
	}
	// What becomes of the schema behind the call.
	u := copied(s)
	f = compile(t, u, place)
	all, _ := ir.All(u)
	for i := range u.Types {
		for k := range u.Types[i].Const {
			u.Types[i].Const[k] = 99
		}
		for k := range u.Types[i].Values {
			u.Types[i].Values[k] = api.Named{}
		}
		u.Types[i] = api.TypeNode{}
	}
	for i := range u.Parts {
		for k := range u.Parts[i].Const {
			u.Parts[i].Const[k] = 99
		}
		u.Parts[i] = api.Part{}
	}
	if !alike(f, forms[1]) || !slices.EqualFunc(all, forms, alike) {
		t.Error("P12.1: a form has memory of the schema's")
	}
	one, _ := ir.Show(wide())
	two, _ := ir.Show(wide())
	lines := slices.Clone(two)
	for i := range one[:cap(one)] {
		one[:cap(one)][i] = ""
	}
	if !slices.Equal(two, lines) {
		t.Error("P12.5: two answers of Show share memory")
	}
}

// within tells whether a text lies in another one's memory.
func within(s, whole string) bool {
	if s == "" || whole == "" {
		return false
	}
	at, from := uintptr(unsafe.Pointer(unsafe.StringData(s))), uintptr(unsafe.Pointer(unsafe.StringData(whole)))
	return at >= from && at < from+uintptr(len(whole))
}

// The chapter's first lines: no text that is handed in is kept in an answer.
func TestTextsAreNew(t *testing.T) {
	s := copied(oddSchema(t))
	var names []*string
	for i := range s.Types {
		names = append(names, &s.Types[i].Name)
		for k := range s.Types[i].Values {
			names = append(names, &s.Types[i].Values[k].Name)
		}
	}
	for i := range s.Parts {
		names = append(names, &s.Parts[i].Name)
	}
	// All names in one text, so that what is kept of them shows.
	var joined strings.Builder
	for _, name := range names {
		joined.WriteString(*name)
	}
	whole, from := joined.String(), 0
	for _, name := range names {
		*name, from = whole[from:from+len(*name)], from+len(*name)
	}
	all, e := ir.All(s)
	if e != api.OK {
		t.Fatal(e)
	}
	for _, f := range append(all, compile(t, s, schema.Message(s, "All"))) {
		for i, x := range f.Tokens {
			if within(x.Name, whole) {
				t.Errorf("the name %q of %d is the schema's own", x.Name, i)
			}
		}
	}
	f := wide()
	joined.Reset()
	for _, x := range f.Tokens {
		joined.WriteString(x.Name)
	}
	whole, from = joined.String(), 0
	for i, x := range f.Tokens {
		f.Tokens[i].Name, from = whole[from:from+len(x.Name)], from+len(x.Name)
	}
	lines, e := ir.Show(f)
	if e != api.OK || slices.ContainsFunc(lines, func(line string) bool { return within(line, whole) }) {
		t.Errorf("Show: error %d, or a line is the form's own", e)
	}
}

// The chapter's limits: the work is about linear in the tokens, of many types, parts, members, Values and groups.
func TestManyOfAll(t *testing.T) {
	s := copied(load(t, whole(header+dimension, "")))
	dim, many := types.Find(s.Types, "groupSizeEncoding"), len(s.Types)
	e := simple(1, "Many", api.Uint32, 1)
	e.Kind = api.TypeEnum
	for i := range 100000 {
		e.Values = append(e.Values, api.Named{Name: fmt.Sprintf("v%d", i), Value: uint64(i)})
	}
	s.Types = append(s.Types, e)
	// A composite in a composite and so on, with many members in the innermost one.
	deep := len(s.Types)
	for d := range api.MaxDepth {
		s.Types = append(s.Types, api.TypeNode{Depth: 1 + d, Kind: api.TypeComposite, Name: "Deep", Size: 5000})
	}
	for i := range 5000 {
		n := simple(1+api.MaxDepth, fmt.Sprintf("m%d", i), api.Uint8, 1)
		n.Offset = i
		s.Types = append(s.Types, n)
	}
	// Dimensions, each for a group.
	dims := len(s.Types)
	for i := range 3000 {
		s.Types = append(s.Types, s.Types[dim:dim+3]...)
		s.Types[dims+3*i].Name = fmt.Sprintf("dim%d", i)
	}
	add := func(p api.Part) {
		p.ID, p.Deprecated, p.Name = len(s.Parts)&0xFFFF, -1, fmt.Sprintf("p%d", len(s.Parts))
		s.Parts = append(s.Parts, p)
	}
	add(api.Part{Depth: 1, Kind: api.PartMessage, Block: 4 + 10*5000 + 4000})
	add(api.Part{Depth: 2, Kind: api.PartField, Type: many, Size: 4})
	for i := range 10 {
		add(api.Part{Depth: 2, Kind: api.PartField, Type: deep, Size: 5000, Offset: 4 + 5000*i})
	}
	for i := range 4000 {
		add(api.Part{Depth: 2, Kind: api.PartField, Type: int(api.Uint8), Size: 1, Offset: 4 + 10*5000 + i})
	}
	for i := range 3000 {
		add(api.Part{Depth: 2, Kind: api.PartGroup, Type: dims + 3*i})
	}
	for range 20000 {
		add(api.Part{Depth: 2, Kind: api.PartGroup, Type: dim})
	}
	for range 20000 {
		add(api.Part{Depth: 1, Kind: api.PartMessage})
	}
	all, err := ir.All(s)
	if err != api.OK || len(all) != 20001 {
		t.Fatalf("All: %d forms, error %d", len(all), err)
	}
	f := all[0]
	tokens := 2 + 100000 + 5 + 10*(5000+2*16+2) + 4000*3 + 2*23000
	if e, at := ir.Check(f); e != api.OK || at != 0 || len(f.Tokens) != tokens {
		t.Fatalf("Check: error %d, %d; %d tokens, want %d", e, at, len(f.Tokens), tokens)
	}
	if parts := slices.Collect(ir.Parts(f, 0)); len(parts) != 1+10+4000+23000 {
		t.Errorf("%d parts", len(parts))
	}
	if i := ir.Find(f, 0, "p27000"); i < 0 || f.Tokens[i].Op != api.BeginGroup {
		t.Errorf("Find: %d", i)
	}
	if leaves := slices.Collect(ir.Leaves(f, ir.Find(f, 0, "p2"))); len(leaves) != 5000 {
		t.Errorf("%d leaves", len(leaves))
	}
	if lines, e := ir.Show(f); e != api.OK || len(lines) != tokens {
		t.Errorf("Show: %d lines, error %d", len(lines), e)
	}
}
