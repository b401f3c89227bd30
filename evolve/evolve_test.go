package evolve_test

import (
	"fmt"
	"reflect"
	"slices"
	"strings"
	"testing"

	"stencil/api"
	"stencil/evolve"
	"stencil/schema"
)

// The types of the chapter's examples.
const (
	header    = `<composite name="messageHeader"><type name="blockLength" primitiveType="uint16"/><type name="templateId" primitiveType="uint16"/><type name="schemaId" primitiveType="uint16"/><type name="version" primitiveType="uint16"/></composite>`
	dimension = `<composite name="groupSizeEncoding"><type name="blockLength" primitiveType="uint16"/><type name="numInGroup" primitiveType="uint8"/></composite>`
	varText   = `<composite name="text"><type name="length" primitiveType="uint8"/><type name="varData" primitiveType="char" length="0"/></composite>`
	side      = `<enum name="Side" encodingType="uint8"><validValue name="Buy">1</validValue><validValue name="Sell" sinceVersion="1">2</validValue></enum>`
	chapter   = header + dimension + varText + side
)

// The parts of the chapter's S.
const (
	fieldA   = `<field name="a" id="2" type="uint8"/>`
	fieldB   = `<field name="b" id="3" type="int16" presence="optional" sinceVersion="1"/>`
	fieldC   = `<field name="c" id="4" type="uint8" presence="optional" sinceVersion="2"/>`
	groupG   = `<group name="g" id="5"><field name="x" id="6" type="uint8"/></group>`
	dataD    = `<data name="d" id="7" type="text" sinceVersion="2"/>`
	messageN = `<message name="N" id="2" sinceVersion="1"/>`
)

// whole is the text of a schema of a version with these types and messages.
func whole(version int, ts, messages string) string {
	return fmt.Sprintf(`<messageSchema package="p" id="1" version="%d"><types>%s</types>%s</messageSchema>`, version, ts, messages)
}

func inM(parts string) string { return `<message name="M" id="1">` + parts + `</message>` }

func load(t testing.TB, text string) api.Schema {
	t.Helper()
	s, e, at := schema.Load(text)
	if e != api.OK {
		t.Fatalf("%.3000s: error %d at %d: %.60s", text, e, at, text[at:])
	}
	return s
}

// ofVersion is a schema with the chapter's types, and more, whose one message has these parts.
func ofVersion(t testing.TB, version int, more, parts string) api.Schema {
	t.Helper()
	return load(t, whole(version, chapter+more, inM(parts)))
}

// chapterS is the chapter's S.
func chapterS(t testing.TB) api.Schema {
	return load(t, whole(2, chapter, inM(fieldA+fieldB+fieldC+groupG+dataD)+messageN))
}

// copied is a schema in memory of its own.
func copied(s api.Schema) api.Schema {
	s.Types, s.Parts = slices.Clone(s.Types), slices.Clone(s.Parts)
	for i := range s.Types {
		s.Types[i].Const, s.Types[i].Values = slices.Clone(s.Types[i].Const), slices.Clone(s.Types[i].Values)
	}
	for i := range s.Parts {
		s.Parts[i].Const = slices.Clone(s.Parts[i].Const)
	}
	return s
}

// turned is a copy of a schema with something changed, which is valid all the same.
func turned(t testing.TB, s api.Schema, turns ...func(s *api.Schema)) api.Schema {
	t.Helper()
	s = copied(s)
	for _, turn := range turns {
		turn(&s)
	}
	if e, n := schema.Valid(s); e != api.OK {
		t.Fatalf("turned: error %d, %d: %+v", e, n, s.Parts)
	}
	return s
}

func version(v int) func(s *api.Schema) { return func(s *api.Schema) { s.Version = v } }

// alike holds two schemas against each other without the program's help; lists that are nil and empty are alike.
func alike(s, u api.Schema) bool { return reflect.DeepEqual(levelled(s), levelled(u)) }

func levelled(s api.Schema) api.Schema {
	s.Types, s.Parts = append([]api.TypeNode{}, s.Types...), append([]api.Part{}, s.Parts...)
	for i := range s.Types {
		s.Types[i].Const, s.Types[i].Values = append([]uint64{}, s.Types[i].Const...), append([]api.Named{}, s.Types[i].Values...)
	}
	for i := range s.Parts {
		s.Parts[i].Const = append([]uint64{}, s.Parts[i].Const...)
	}
	return s
}

func at(t testing.TB, s api.Schema, v int) api.Schema {
	t.Helper()
	u, e := evolve.At(s, v)
	if e != api.OK {
		t.Fatalf("P11.1: At(%d): error %d", v, e)
	}
	return u
}

// node is the place of the node of a name that leads to it from its type, with points.
func node(t testing.TB, s api.Schema, path string) int {
	t.Helper()
	names := strings.Split(path, ".")
	depth := 1
	for i, n := range s.Types {
		if n.Depth == depth && n.Name == names[depth-1] {
			if depth == len(names) {
				return i
			}
			depth++
		}
	}
	t.Fatalf("no node %s", path)
	return -1
}

// part is the place of the part with a path.
func part(t testing.TB, s api.Schema, path string) int {
	t.Helper()
	for i := range s.Parts {
		if secondPath(s.Parts, i) == path {
			return i
		}
	}
	t.Fatalf("no part %s", path)
	return -1
}

// valueNames is the names of a node's Values.
func valueNames(t testing.TB, s api.Schema, path string) string {
	var names []string
	for _, v := range s.Types[node(t, s, path)].Values {
		names = append(names, v.Name)
	}
	return strings.Join(names, " ")
}

// outline is the paths of a schema's parts, messages and groups with their Block.
func outline(s api.Schema) string {
	var told []string
	for i, p := range s.Parts {
		path := secondPath(s.Parts, i)
		if p.Kind == api.PartMessage || p.Kind == api.PartGroup {
			path += fmt.Sprintf(":%d", p.Block)
		}
		told = append(told, path)
	}
	return strings.Join(told, " ")
}

// P11.1, the chapter's example 1.
func TestAtOfTheChapter(t *testing.T) {
	s := chapterS(t)
	for v, want := range []struct{ parts, side string }{
		{"M:1 M.a M.g:1 M.g.x", "Buy"},
		{"M:3 M.a M.b M.g:1 M.g.x N:0", "Buy Sell"},
		{"M:4 M.a M.b M.c M.g:1 M.g.x M.d N:0", "Buy Sell"},
	} {
		u := at(t, s, v)
		if got := outline(u); got != want.parts {
			t.Errorf("At(S, %d): %s, want %s", v, got, want.parts)
		}
		if got := valueNames(t, u, "Side"); got != want.side {
			t.Errorf("At(S, %d): Side with %s, want %s", v, got, want.side)
		}
		if u.Version != v || u.Package != s.Package || u.ID != s.ID || u.Order != s.Order || u.Header != s.Header || len(u.Types) != len(s.Types) {
			t.Errorf("At(S, %d): %+v", v, u)
		}
	}
	if !alike(at(t, s, 2), s) {
		t.Errorf("At(S, 2) isn't S")
	}
	for _, v := range []int{3, -1} {
		refused(t, s, v, api.ErrVersion)
	}
}

// refused sees that At and News refuse, with nothing beside the error.
func refused(t *testing.T, s api.Schema, v int, want api.Errno) {
	t.Helper()
	if u, e := evolve.At(s, v); e != want || !reflect.DeepEqual(u, api.Schema{}) {
		t.Errorf("P11.1: At(%d): %+v, error %d, want %d", v, u, e, want)
	}
	if l, e := evolve.News(s, v); e != want || len(l) != 0 {
		t.Errorf("P11.2: News(%d): %q, error %d, want %d", v, l, e, want)
	}
}

// P11.2, the chapter's example 2.
func TestNewsOfTheChapter(t *testing.T) {
	s := chapterS(t)
	for v, want := range []string{"M M.a M.g M.g.x", "M.b N", "M.c M.d"} {
		hasNews(t, s, v, want)
	}
}

func hasNews(t *testing.T, s api.Schema, v int, want string) {
	t.Helper()
	if l, e := evolve.News(s, v); e != api.OK || strings.Join(l, " ") != want {
		t.Errorf("P11.2: News(%d): %q, error %d, want %s", v, l, e, want)
	}
}

// P11.1, P11.2: versions that a schema doesn't have; with each that it has there is an answer.
func TestVersions(t *testing.T) {
	const most = int(^uint(0) >> 1)
	for last, s := range []api.Schema{load(t, whole(0, header, inM(""))), ofVersion(t, 1, "", ""), chapterS(t)} {
		for v := range last + 1 {
			at(t, s, v)
		}
		for _, v := range []int{last + 1, last + 2, api.MaxVersion, 65535, 65536, most, -1, -2, -most - 1, last - 65536, last + 1<<32} {
			refused(t, s, v, api.ErrVersion)
		}
	}
	greatest := load(t, whole(api.MaxVersion, header, inM(`<field name="a" id="1" type="uint8" presence="optional" sinceVersion="65534"/>`)))
	if u := at(t, greatest, api.MaxVersion-1); outline(u) != "M:0" {
		t.Errorf("ahead of the greatest version: %s", outline(u))
	}
	if u := at(t, greatest, api.MaxVersion); !alike(u, greatest) {
		t.Errorf("at the greatest version: %s", outline(u))
	}
	hasNews(t, greatest, 0, "M")
	hasNews(t, greatest, 1, "")
	hasNews(t, greatest, api.MaxVersion-1, "")
	hasNews(t, greatest, api.MaxVersion, "M.a")
	refused(t, greatest, api.MaxVersion+1, api.ErrVersion)
}

// P11.1, P11.2: schema.Valid's error, ahead of ErrVersion.
func TestNoSchemas(t *testing.T) {
	for _, bad := range spoilt(t) {
		for _, v := range []int{0, 2, -1, 3} {
			refused(t, bad.s, v, bad.err)
		}
	}
}

type noSchema struct {
	s   api.Schema
	err api.Errno
}

// spoilt is schemas that schema.Valid refuses, each with its error.
func spoilt(t testing.TB) []noSchema {
	var out []noSchema
	for want, spoil := range map[api.Errno]func(s *api.Schema){
		api.ErrSchemaMade:  func(s *api.Schema) { s.Package = "" },
		api.ErrTypeNone:    func(s *api.Schema) { s.Types = s.Types[1:] },
		api.ErrHeader:      func(s *api.Schema) { s.Header = 0 },
		api.ErrSince:       func(s *api.Schema) { s.Types[node(t, *s, "Side")].Values[1].Since = 3 },
		api.ErrNameTwice:   func(s *api.Schema) { s.Parts[part(t, *s, "M.b")].Name = "a" },
		api.ErrNotOptional: func(s *api.Schema) { s.Parts[part(t, *s, "M.c")].Presence = api.Required },
		api.ErrLayOver:     func(s *api.Schema) { s.Parts[part(t, *s, "M.c")].Offset = 2 },
		api.ErrLayBlock:    func(s *api.Schema) { s.Parts[part(t, *s, "M")].Block = 3 },
		api.ErrTypeEnum:    func(s *api.Schema) { s.Types[node(t, *s, "Side")].Values[1].Value = 1 },
		api.ErrTypeOffset:  func(s *api.Schema) { s.Types[node(t, *s, "messageHeader")].Size = 9 },
	} {
		s := copied(chapterS(t))
		spoil(&s)
		if e, n := schema.Valid(s); e != want {
			t.Fatalf("Valid: error %d, %d, want %d", e, n, want)
		}
		out = append(out, noSchema{s, want})
	}
	return append(out, noSchema{api.Schema{}, api.ErrSchemaMade})
}

// P11.1: a Value goes by its own Since: of enums and sets, of types and of those that stand in composites, whatever its place among the others.
func TestAtLeavesValuesOut(t *testing.T) {
	const values = `<validValue name="late" sinceVersion="3">9</validValue><validValue name="zero">1</validValue><validValue name="two" sinceVersion="2">2</validValue><validValue name="one" sinceVersion="1">3</validValue><validValue name="again">4</validValue>`
	const choices = `<choice name="one" sinceVersion="1">5</choice><choice name="zero">0</choice><choice name="late" sinceVersion="3">7</choice>`
	more := `<enum name="E" encodingType="uint8">` + values + `</enum><set name="F" encodingType="uint16">` + choices + `</set>` +
		`<composite name="C"><enum name="e" encodingType="uint8">` + values + `</enum><composite name="d"><set name="f" encodingType="uint8">` + choices + `</set><ref name="r" type="E"/></composite><type name="t" primitiveType="char" presence="constant">AB</type></composite>` +
		`<enum name="Never" encodingType="char"><validValue name="x" sinceVersion="3">x</validValue></enum>`
	s := ofVersion(t, 3, more, "")
	for v, want := range []struct{ enum, set, never string }{
		{"zero again", "zero", ""},
		{"zero one again", "one zero", ""},
		{"zero two one again", "one zero", ""},
		{"late zero two one again", "one zero late", "x"},
	} {
		u := at(t, s, v)
		for path, names := range map[string]string{"E": want.enum, "C.e": want.enum, "C.d.r": want.enum, "F": want.set, "C.d.f": want.set, "Never": want.never} {
			if got := valueNames(t, u, path); got != names {
				t.Errorf("P11.1: At(%d): %s has %q, want %q", v, path, got, names)
			}
		}
		// All else of the types is as it is.
		for i := range u.Types {
			n := s.Types[i]
			n.Values = slices.DeleteFunc(slices.Clone(n.Values), func(value api.Named) bool { return value.Since > v })
			if got := u.Types[i]; !reflect.DeepEqual(levelled(api.Schema{Types: []api.TypeNode{got}}), levelled(api.Schema{Types: []api.TypeNode{n}})) {
				t.Errorf("P11.1: At(%d): node %d is %+v, want %+v", v, i, got, n)
			}
		}
	}
}

// P11.1, P11.2: parts that came with those that hold them, at several depths, and those that came later.
func TestPartsByWhenTheyCame(t *testing.T) {
	s := load(t, whole(3, chapter,
		inM(fieldA+`<field name="k" id="9" type="int32" presence="optional" sinceVersion="2"/>`+
			`<group name="g" id="10"><field name="x" id="11" type="uint8"/><field name="y" id="12" type="uint16" presence="optional" sinceVersion="3"/><group name="in" id="13"><field name="z" id="14" type="uint8"/><field name="w" id="24" type="uint8" presence="optional" sinceVersion="1"/><data name="d" id="15" type="text"/></group></group>`+
			`<group name="h" id="16" sinceVersion="2"><field name="x" id="17" type="uint32" sinceVersion="2"/><field name="y" id="18" type="uint8" sinceVersion="3" presence="optional"/><group name="in" id="19" sinceVersion="2"/><data name="d" id="20" type="text" sinceVersion="2"/></group>`+
			`<data name="d" id="21" type="text" sinceVersion="2"/><data name="e" id="22" type="text" sinceVersion="3"/>`)+
			`<message name="N" id="2" sinceVersion="3"><field name="a" id="1" type="uint8" sinceVersion="3"/></message>`+
			`<message name="O" id="3" sinceVersion="1"><group name="g" id="1" sinceVersion="1"><field name="a" id="2" type="uint8" sinceVersion="1"/></group></message>`))
	for v, want := range []string{
		"M:1 M.a M.g:1 M.g.x M.g.in:1 M.g.in.z M.g.in.d",
		"M:1 M.a M.g:1 M.g.x M.g.in:2 M.g.in.z M.g.in.w M.g.in.d O:0 O.g:1 O.g.a",
		"M:5 M.a M.k M.g:1 M.g.x M.g.in:2 M.g.in.z M.g.in.w M.g.in.d M.h:4 M.h.x M.h.in:0 M.h.d M.d O:0 O.g:1 O.g.a",
		"M:5 M.a M.k M.g:3 M.g.x M.g.y M.g.in:2 M.g.in.z M.g.in.w M.g.in.d M.h:5 M.h.x M.h.y M.h.in:0 M.h.d M.d M.e N:1 N.a O:0 O.g:1 O.g.a",
	} {
		if got := outline(at(t, s, v)); got != want {
			t.Errorf("P11.1: At(%d): %s\nwant %s", v, got, want)
		}
	}
	hasNews(t, s, 0, "M M.a M.g M.g.x M.g.in M.g.in.z M.g.in.d")
	hasNews(t, s, 1, "M.g.in.w O O.g O.g.a")
	hasNews(t, s, 2, "M.k M.h M.h.x M.h.in M.h.d M.d")
	hasNews(t, s, 3, "M.g.y M.h.y M.e N N.a")
}

// P11.1: each part that stays is as it is, but for its Block; a part's number doesn't matter.
func TestAtKeepsPartsAsTheyAre(t *testing.T) {
	s := ofVersion(t, 2, `<type name="AB" primitiveType="char" presence="constant">AB</type>`,
		fieldB+`<field name="k" id="9" type="AB" sinceVersion="1" deprecated="2"/><field name="s" id="10" type="Side" presence="constant" valueRef="Side.Sell" sinceVersion="1"/>`+fieldC+
			`<group name="g" id="5" deprecated="7"><field name="x" id="6" type="uint8" offset="3" deprecated="0"/></group><data name="d" id="7" type="text" sinceVersion="1"/>`)
	u := at(t, s, 1)
	var want []api.Part
	for _, p := range s.Parts {
		if p.Name == "M" {
			p.Block = 2
		}
		if p.Name != "c" {
			want = append(want, p)
		}
	}
	if !alike(api.Schema{Parts: u.Parts}, api.Schema{Parts: want}) {
		t.Errorf("P11.1: %+v\nwant %+v", u.Parts, want)
	}
}

// P11.1: block lengths at each version, of a message and of a group, with gaps, with fields that take no bytes, with none left.
func TestBlockLengths(t *testing.T) {
	const (
		opt = `presence="optional" sinceVersion=`
		two = `<type name="Two" primitiveType="uint8" presence="constant">2</type><composite name="Fixed"><type name="k" primitiveType="uint8" presence="constant">2</type></composite>`
	)
	for _, r := range []struct {
		what, attrs, fields string
		want                []int // by version
	}{
		{"nothing", ``, ``, []int{0, 0, 0, 0}},
		{"a block without fields", `blockLength="7"`, ``, []int{7, 7, 7, 7}},
		{"none is later", `blockLength="7"`, `<field name="a" id="2" type="uint8"/>`, []int{7, 7, 7, 7}},
		{"none is left", ``, `<field name="a" id="2" type="uint8" ` + opt + `"2"/>`, []int{0, 0, 1, 1}},
		{"none is left behind a gap", ``, `<field name="a" id="2" type="uint8" offset="5" ` + opt + `"2"/>`, []int{5, 5, 6, 6}},
		{"one a version", ``, `<field name="a" id="2" type="uint8"/><field name="b" id="3" type="uint16" ` + opt + `"1"/><field name="c" id="4" type="uint32" ` + opt + `"2"/><field name="d" id="5" type="uint64" ` + opt + `"3"/>`, []int{1, 3, 7, 15}},
		{"gaps ahead of what is later", `blockLength="30"`, `<field name="a" id="2" type="uint8" offset="1"/><field name="b" id="3" type="uint16" offset="4" ` + opt + `"1"/><field name="c" id="4" type="uint8" offset="10" ` + opt + `"3"/>`, []int{4, 10, 10, 30}},
		{"two of one version", ``, `<field name="a" id="2" type="uint8"/><field name="b" id="3" type="uint8" ` + opt + `"2"/><field name="c" id="4" type="uint8" ` + opt + `"2"/>`, []int{1, 1, 3, 3}},
		{"constants among them", ``, `<field name="k" id="9" type="Two"/><field name="a" id="2" type="uint8"/><field name="l" id="10" type="Two" sinceVersion="1"/><field name="e" id="11" type="Side" presence="constant" valueRef="Side.Buy" sinceVersion="2"/><field name="b" id="3" type="uint8" offset="3" ` + opt + `"2"/>`, []int{3, 3, 4, 4}},
		{"constants alone are later", `blockLength="4"`, `<field name="a" id="2" type="uint8"/><field name="k" id="9" type="Two" sinceVersion="1"/><field name="f" id="10" type="Fixed" ` + opt + `"2"/>`, []int{4, 4, 4, 4}},
		{"a composite without bytes ahead", ``, `<field name="a" id="2" type="uint16"/><field name="f" id="10" type="Fixed" ` + opt + `"1"/><field name="b" id="3" type="uint8" ` + opt + `"3"/>`, []int{2, 2, 2, 3}},
	} {
		s := ofVersion(t, 3, two, `<group name="g" id="100" `+r.attrs+`>`+r.fields+`<group name="in" id="101" `+r.attrs+`>`+strings.ReplaceAll(r.fields, ` id="`, ` id="20`)+`<data name="t" id="102" type="text"/></group></group><data name="t" id="103" type="text" sinceVersion="3"/>`)
		whole := load(t, whole(3, chapter+two, `<message name="M" id="1" `+r.attrs+`>`+r.fields+`<group name="g" id="100"><field name="late" id="101" type="uint64" `+opt+`"1"/></group></message><message name="N" id="2"><field name="a" id="1" type="uint8" `+opt+`"3"/></message>`))
		for v, want := range r.want {
			u, w := at(t, s, v), at(t, whole, v)
			got := []int{w.Parts[part(t, w, "M")].Block, u.Parts[part(t, u, "M.g")].Block, u.Parts[part(t, u, "M.g.in")].Block}
			if !slices.Equal(got, []int{want, want, want}) {
				t.Errorf("P11.1: %s: at %d the blocks are %d, want %d", r.what, v, got, want)
			}
		}
	}
}

// P11.2: News tells nothing of a version with which nothing came; paths are whole.
func TestNewsOfNothing(t *testing.T) {
	hasNews(t, load(t, whole(2, header, "")), 0, "")
	s := load(t, whole(2, header, `<message name="M" id="1"/>`))
	hasNews(t, s, 0, "M")
	hasNews(t, s, 1, "")
	hasNews(t, s, 2, "")
	deep := ""
	for i := range api.MaxNest {
		deep += fmt.Sprintf(`<group name="g%d" id="%d" sinceVersion="1">`, i, i)
	}
	deep += `<field name="a" id="100" type="uint8" sinceVersion="1"/><field name="b" id="101" type="uint8" sinceVersion="2" presence="optional"/><data name="d" id="102" type="text" sinceVersion="1"/>` + strings.Repeat("</group>", api.MaxNest)
	s = load(t, whole(2, chapter, inM(deep)))
	hasNews(t, s, 0, "M")
	hasNews(t, s, 1, "M.g0 M.g0.g1 M.g0.g1.g2 M.g0.g1.g2.g3 M.g0.g1.g2.g3.g4 M.g0.g1.g2.g3.g4.g5 M.g0.g1.g2.g3.g4.g5.g6 M.g0.g1.g2.g3.g4.g5.g6.g7 M.g0.g1.g2.g3.g4.g5.g6.g7.a M.g0.g1.g2.g3.g4.g5.g6.g7.d")
	hasNews(t, s, 2, "M.g0.g1.g2.g3.g4.g5.g6.g7.b")
}
