package canon_test

import (
	"fmt"
	"reflect"
	"slices"
	"strings"
	"testing"
	"unsafe"

	"stencil/api"
	"stencil/canon"
)

// roomy is a copy of a list with marks in the room behind it.
func roomy[T any](list []T, mark T) []T {
	r := append(slices.Clone(list), mark, mark, mark)
	return r[:len(list)]
}

// roomySchema is a copy of a schema all of whose lists have room behind them.
func roomySchema(s api.Schema) api.Schema {
	s = copied(s)
	for i := range s.Types {
		s.Types[i].Const = roomy(s.Types[i].Const, 77)
		s.Types[i].Values = roomy(s.Types[i].Values, api.Named{Name: "behind", Value: 77, Since: 77})
	}
	for i := range s.Parts {
		s.Parts[i].Const = roomy(s.Parts[i].Const, 77)
	}
	s.Types = roomy(s.Types, api.TypeNode{Depth: -7, Name: "behind", Const: []uint64{7}})
	s.Parts = roomy(s.Parts, api.Part{Depth: -7, Name: "behind", Const: []uint64{7}})
	return s
}

// opened is a copy of a schema, the room behind its lists laid open.
func opened(s api.Schema) api.Schema {
	s.Types, s.Parts = slices.Clone(s.Types[:cap(s.Types)]), slices.Clone(s.Parts[:cap(s.Parts)])
	for i := range s.Types {
		n := &s.Types[i]
		n.Const, n.Values = slices.Clone(n.Const[:cap(n.Const)]), slices.Clone(n.Values[:cap(n.Values)])
	}
	for i := range s.Parts {
		s.Parts[i].Const = slices.Clone(s.Parts[i].Const[:cap(s.Parts[i].Const)])
	}
	return s
}

// fullSchema has nodes and parts of all Kinds.
func fullSchema(t testing.TB) api.Schema {
	more := `<type name="AB" primitiveType="char" length="3" presence="constant">AB</type><type name="Odd" primitiveType="float" presence="optional" nullValue="1" minValue="2" maxValue="3"/><type name="Nums" primitiveType="int16" length="2" presence="constant">1,-2</type><set name="Flags" encodingType="uint8"><choice name="a">0</choice></set>`
	parts := `<field name="a" id="1" type="AB"/><field name="b" id="2" type="AB"/><field name="c" id="3" type="Side" presence="constant" valueRef="Side.Buy"/><field name="d" id="4" type="Odd" offset="3"/><group name="g" id="5" blockLength="9"><field name="x" id="6" type="Flags" presence="optional"/></group><data name="e" id="7" type="text"/>`
	return load(t, inM(more, parts))
}

// P10.5: what is handed in stays, and the room behind it.
func TestArgumentsStay(t *testing.T) {
	bad := fullSchema(t)
	bad.Types = append(bad.Types, letters("Z", "\x00"))
	invalid := fullSchema(t)
	invalid.Parts[4].Offset = -1
	for _, s := range []api.Schema{fullSchema(t), bad, invalid, {}} {
		s = roomySchema(s)
		want := opened(s)
		canon.Decls(s)
		canon.Print(s)
		canon.Outline(s)
		if got := opened(s); !reflect.DeepEqual(got, want) {
			t.Errorf("changed: %+v\nwant %+v", got, want)
		}
	}
}

// P10.5: answers are new memory: what becomes of one is no matter for another, nor what becomes of the schema.
func TestAnswersAreNew(t *testing.T) {
	s := fullSchema(t)
	ds, _ := canon.Decls(s)
	again, _ := canon.Decls(s)
	want := slices.Clone(again)
	for i := range ds[:cap(ds)] {
		ds[:cap(ds)][i] = api.Decl{Name: "spoilt"}
	}
	if !slices.Equal(again, want) {
		t.Errorf("two lists of declarations share memory")
	}
	lines, _ := canon.Outline(s)
	linesAgain, _ := canon.Outline(s)
	wantLines := slices.Clone(linesAgain)
	for i := range lines[:cap(lines)] {
		lines[:cap(lines)][i] = "spoilt"
	}
	if !slices.Equal(linesAgain, wantLines) {
		t.Errorf("two lists of lines share memory")
	}
	out, _ := canon.Print(s)
	kept := strings.Clone(out)
	for i := range s.Types {
		s.Types[i].Name = "spoilt"
		clear(s.Types[i].Const)
		clear(s.Types[i].Values)
	}
	clear(s.Parts)
	if !slices.Equal(again, want) || !slices.Equal(linesAgain, wantLines) || out != kept {
		t.Errorf("an answer goes by what was handed in")
	}
}

// within tells whether a text's bytes are among those of another.
func within(s, whole string) bool {
	if s == "" || whole == "" {
		return false
	}
	at, from := uintptr(unsafe.Pointer(unsafe.StringData(s))), uintptr(unsafe.Pointer(unsafe.StringData(whole)))
	return at >= from && at < from+uintptr(len(whole))
}

// P10.5: no text of a schema is kept in an answer.
func TestTextsAreNew(t *testing.T) {
	s := fullSchema(t)
	// All names in one text, so that what is kept of them shows.
	var names strings.Builder
	put := func(name *string) { names.WriteString(*name) }
	eachName(&s, put)
	all, from := names.String(), 0
	eachName(&s, func(name *string) {
		*name, from = all[from:from+len(*name)], from+len(*name)
	})
	ds, e := canon.Decls(s)
	if e != api.OK {
		t.Fatal(e)
	}
	for _, d := range ds {
		for _, said := range []string{d.Name, d.Type, d.Value, d.Null, d.Min, d.Max} {
			if within(said, all) {
				t.Errorf("%q of %+v is the schema's own", said, d)
			}
		}
	}
	lines, _ := canon.Outline(s)
	for _, line := range lines {
		if within(line, all) {
			t.Errorf("%q is the schema's own", line)
		}
	}
}

// eachName goes through the names of a schema, Basic's aside.
func eachName(s *api.Schema, f func(name *string)) {
	f(&s.Package)
	for i := 11; i < len(s.Types); i++ {
		f(&s.Types[i].Name)
		for k := range s.Types[i].Values {
			f(&s.Types[i].Values[k].Name)
		}
	}
	for i := range s.Parts {
		f(&s.Parts[i].Name)
	}
}

// P10.5: every call ends, and soon, where there are many of all.
func TestManyOfAll(t *testing.T) {
	var ns []api.TypeNode
	for i := range 9000 {
		ns = append(ns, simple(1, fmt.Sprintf("T%d", i), api.Uint32, 1, null(uint64(i))))
	}
	for i := range 9000 {
		ns = append(ns, changed(enum(1, fmt.Sprintf("E%d", i), api.Uint32), null(8999)))
	}
	last := enum(1, "Last", api.Uint32)
	for i := range 200000 {
		last.Values = append(last.Values, api.Named{Name: fmt.Sprintf("v%d", i), Value: uint64(i)})
	}
	s := withNodes(t, append(ns, last)...)
	s.Parts = append(s.Parts, api.Part{Kind: api.PartMessage, Depth: 1, Name: "M", Deprecated: -1})
	for i := range 60000 {
		s.Parts = append(s.Parts, api.Part{Depth: 2, Kind: api.PartField, Name: fmt.Sprintf("f%d", i), ID: i, Type: len(s.Types) - 1, Presence: api.Constant, Const: []uint64{199999}, Deprecated: -1})
	}
	cant(t, s)
	s.Types = s.Types[:len(s.Types)-1]
	s.Parts = nil
	ds, e := canon.Decls(s)
	if e != api.OK || ds[len(ds)-1].Type != "T8999" {
		t.Errorf("error %d", e)
	}
}
