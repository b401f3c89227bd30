package evolve_test

import (
	"fmt"
	"reflect"
	"slices"
	"strings"
	"testing"
	"unsafe"

	"stencil/api"
	"stencil/evolve"
)

// roomy is a copy of a list with marks in the room behind it.
func roomy[T any](list []T, mark T) []T {
	r := append(slices.Clone(list), mark, mark, mark)
	return r[:len(list)]
}

// roomySchema is a copy of a schema all of whose lists have room behind them.
func roomySchema(s api.Schema) api.Schema {
	s = copied(s)
	for i := range s.Types {
		s.Types[i].Const = roomy(s.Types[i].Const, 77)
		s.Types[i].Values = roomy(s.Types[i].Values, api.Named{Name: "behind", Value: 77})
	}
	for i := range s.Parts {
		s.Parts[i].Const = roomy(s.Parts[i].Const, 77)
	}
	s.Types = roomy(s.Types, api.TypeNode{Depth: 2, Name: "behind", Const: []uint64{7}})
	s.Parts = roomy(s.Parts, api.Part{Depth: 1, Name: "behind", Const: []uint64{7}})
	return s
}

// opened is a copy of a schema, the room behind its lists laid open.
func opened(s api.Schema) api.Schema {
	s.Types, s.Parts = slices.Clone(s.Types[:cap(s.Types)]), slices.Clone(s.Parts[:cap(s.Parts)])
	for i := range s.Types {
		n := &s.Types[i]
		n.Const, n.Values = slices.Clone(n.Const[:cap(n.Const)]), slices.Clone(n.Values[:cap(n.Values)])
	}
	for i := range s.Parts {
		s.Parts[i].Const = slices.Clone(s.Parts[i].Const[:cap(s.Parts[i].Const)])
	}
	return s
}

// fullSchema has nodes and parts of all Kinds, and some of each at several versions.
func fullSchema(t testing.TB) api.Schema {
	more := `<type name="AB" primitiveType="char" length="3" presence="constant">AB</type><set name="Flags" encodingType="uint8"><choice name="b" sinceVersion="2">1</choice><choice name="a">0</choice></set><composite name="C"><ref name="s" type="Side"/><ref name="k" type="AB"/></composite>`
	return ofVersion(t, 3, more, `<field name="k" id="1" type="AB"/><field name="e" id="2" type="Side" presence="constant" valueRef="Side.Sell" sinceVersion="1"/><field name="c" id="3" type="C" presence="optional" sinceVersion="2"/><group name="g" id="4"><field name="f" id="5" type="Flags"/><field name="l" id="6" type="AB" sinceVersion="3"/></group><data name="d" id="7" type="text" sinceVersion="3"/>`)
}

// P11.5: what is handed in stays, and the room behind it.
func TestArgumentsStay(t *testing.T) {
	full := fullSchema(t)
	later := turned(t, full, version(4), func(s *api.Schema) { s.Parts[1].ID, s.Parts[4].Name = 50, "h" })
	invalid := copied(full)
	invalid.Parts[3].Offset = -1
	list := []api.Schema{full, at(t, full, 1), later, chapterS(t), invalid, {}}
	for _, a := range list {
		for _, b := range list {
			a, b := roomySchema(a), roomySchema(b)
			wantA, wantB := opened(a), opened(b)
			for v := -1; v < 5; v++ {
				evolve.At(a, v)
				evolve.News(a, v)
			}
			evolve.Breaches(a, b)
			evolve.Follows(a, b)
			if gotA, gotB := opened(a), opened(b); !reflect.DeepEqual(gotA, wantA) || !reflect.DeepEqual(gotB, wantB) {
				t.Fatalf("changed: %+v\nwant %+v\nand %+v\nwant %+v", gotA, wantA, gotB, wantB)
			}
		}
	}
}

// P11.5: what stands behind a list isn't looked at.
func TestRoomBehindIsNoMatter(t *testing.T) {
	s := fullSchema(t)
	r := roomySchema(s)
	for v := range 4 {
		if !alike(at(t, r, v), at(t, s, v)) {
			t.Errorf("At(%d) goes by the room behind", v)
		}
	}
	breaks(t, "with room behind", roomySchema(at(t, s, 1)), r, "")
}

// spoil overwrites all lists of a schema, and the room behind them.
func spoil(s api.Schema) {
	for _, n := range s.Types[:cap(s.Types)] {
		clear(n.Const[:cap(n.Const)])
		clear(n.Values[:cap(n.Values)])
	}
	for _, p := range s.Parts[:cap(s.Parts)] {
		clear(p.Const[:cap(p.Const)])
	}
	clear(s.Types[:cap(s.Types)])
	clear(s.Parts[:cap(s.Parts)])
}

// P11.5: answers are new memory: what becomes of one is no matter to another, nor what becomes of the schema.
func TestAnswersAreNew(t *testing.T) {
	for v := range 4 {
		s := roomySchema(fullSchema(t))
		first, second := at(t, s, v), at(t, s, v)
		want, whole := copied(second), opened(s)
		spoil(first)
		if !alike(second, want) {
			t.Errorf("At(%d): two answers share memory", v)
		}
		if !reflect.DeepEqual(opened(s), whole) {
			t.Errorf("At(%d): an answer shares memory with the schema", v)
		}
		spoil(s)
		if !alike(second, want) {
			t.Errorf("At(%d): an answer goes by the schema", v)
		}
	}
	s := fullSchema(t)
	first, _ := evolve.News(s, 0)
	second, _ := evolve.News(s, 0)
	want := slices.Clone(second)
	clear(first[:cap(first)])
	if !slices.Equal(second, want) {
		t.Errorf("two News share memory")
	}
	b := turned(t, s, version(4), func(s *api.Schema) { s.Parts[1].ID, s.Parts[4].Name = 50, "h" })
	one, _ := evolve.Breaches(s, b)
	two, _ := evolve.Breaches(s, b)
	kept := slices.Clone(two)
	clear(one[:cap(one)])
	if len(kept) < 3 || !slices.Equal(two, kept) {
		t.Errorf("two lists of breaches share memory: %s", told(kept))
	}
}

// P11.5: within one answer no list shares memory with another: each may grow by itself.
func TestListsOfOneAnswer(t *testing.T) {
	u := at(t, fullSchema(t), 2)
	want := copied(u)
	for i := range u.Types {
		_ = append(u.Types[i].Const, 99)
		_ = append(u.Types[i].Values, api.Named{Name: "more"})
	}
	for i := range u.Parts {
		_ = append(u.Parts[i].Const, 99)
	}
	if !alike(u, want) {
		t.Errorf("lists of one answer share memory")
	}
	// Overwriting the Const of one node or part leaves all others.
	for i := range u.Types {
		for w := range u.Types[i].Const {
			u.Types[i].Const[w], want.Types[i].Const[w] = 99, 99
		}
		if !alike(u, want) {
			t.Fatalf("node %d shares its constant", i)
		}
	}
	for i := range u.Parts {
		for w := range u.Parts[i].Const {
			u.Parts[i].Const[w], want.Parts[i].Const[w] = 98, 98
		}
		if !alike(u, want) {
			t.Fatalf("part %d shares its constant", i)
		}
	}
}

// within tells whether a text's bytes are among those of another.
func within(s, whole string) bool {
	if s == "" || whole == "" {
		return false
	}
	at, from := uintptr(unsafe.Pointer(unsafe.StringData(s))), uintptr(unsafe.Pointer(unsafe.StringData(whole)))
	return at >= from && at < from+uintptr(len(whole))
}

// eachName goes through the names of a schema.
func eachName(s *api.Schema, f func(name *string)) {
	f(&s.Package)
	for i := range s.Types {
		f(&s.Types[i].Name)
		for k := range s.Types[i].Values {
			f(&s.Types[i].Values[k].Name)
		}
	}
	for i := range s.Parts {
		f(&s.Parts[i].Name)
	}
}

// P11.5: no text of a schema is kept in an answer.
func TestTextsAreNew(t *testing.T) {
	s := copied(fullSchema(t))
	// All names in one text, so that what is kept of them shows.
	var names strings.Builder
	eachName(&s, func(name *string) { names.WriteString(*name) })
	all, from := names.String(), 0
	eachName(&s, func(name *string) {
		*name, from = all[from:from+len(*name)], from+len(*name)
	})
	u := at(t, s, 3)
	eachName(&u, func(name *string) {
		if within(*name, all) {
			t.Errorf("At: %q is the schema's own", *name)
		}
	})
	news, _ := evolve.News(s, 0)
	found, _ := evolve.Breaches(s, turned(t, s, version(4), func(s *api.Schema) { s.Parts = nil }))
	for _, b := range found {
		news = append(news, b.Name)
	}
	found, _ = evolve.Breaches(turned(t, s, func(s *api.Schema) { s.Parts = nil }), turned(t, s, version(4)))
	for _, b := range found {
		news = append(news, b.Name)
	}
	if len(news) < 20 || !slices.Contains(news, "M") {
		t.Fatalf("%q", news)
	}
	for _, path := range news {
		if within(path, all) {
			t.Errorf("%q is the schema's own", path)
		}
	}
}

// P11.5: every call ends, and soon, where there are many of all.
func TestManyOfAll(t *testing.T) {
	s := copied(load(t, whole(1, header+dimension, "")))
	dim, side := node(t, s, "groupSizeEncoding"), len(s.Types)
	many := enum(1, "Many", api.Uint32)
	for i := range 100000 {
		many.Values = append(many.Values, api.Named{Name: fmt.Sprintf("v%d", i), Value: uint64(i)})
	}
	s.Types = append(s.Types, many)
	for i := range 4000 {
		s.Types = append(s.Types, enum(1, fmt.Sprintf("E%d", i), api.Uint32))
	}
	add := func(p api.Part) {
		p.ID, p.Deprecated, p.Name = len(s.Parts)&0xFFFF, -1, fmt.Sprintf("p%d", len(s.Parts))
		s.Parts = append(s.Parts, p)
	}
	add(api.Part{Depth: 1, Kind: api.PartMessage, Block: 4 * 14000})
	for i := range 10000 {
		add(api.Part{Depth: 2, Kind: api.PartField, Type: side, Size: 4, Offset: 4 * i})
	}
	for i := range 4000 {
		add(api.Part{Depth: 2, Kind: api.PartField, Type: side + 1 + i, Size: 4, Offset: 4 * (10000 + i)})
	}
	for range 20000 {
		add(api.Part{Depth: 2, Kind: api.PartGroup, Type: dim})
	}
	for range 20000 {
		add(api.Part{Depth: 1, Kind: api.PartMessage})
	}
	b := copied(s)
	b.Version = 2
	slices.Reverse(b.Types[side].Values)
	// Of many fields the type was one without values, and is the one with many now.
	for i := 10001; i <= 14000; i++ {
		b.Parts[i].Type = side
	}
	if found, e := evolve.Breaches(s, b); e != api.OK || len(found) != 0 {
		t.Errorf("%d breaches, error %d", len(found), e)
	}
	if found, e := evolve.Breaches(b, turned(t, s, version(3))); e != api.OK || len(found) != 4000 {
		t.Errorf("%d breaches, error %d", len(found), e)
	}
	if l, e := evolve.News(s, 0); e != api.OK || len(l) != len(s.Parts) {
		t.Errorf("%d News, error %d", len(l), e)
	}
	if !alike(at(t, s, 1), s) {
		t.Errorf("At of many is another")
	}
}
