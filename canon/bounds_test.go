package canon_test

import (
	"fmt"
	"slices"
	"strings"
	"testing"

	"stencil/api"
	"stencil/canon"
	"stencil/schema"
)

// P10.1, P10.2, P10.3: schema.Valid's errors, each of them, ahead of ErrCanon.
func TestValidsErrors(t *testing.T) {
	parts := `<field name="a" id="1" type="uint32"/><field name="k" id="2" type="Two"/><field name="e" id="3" type="Side" presence="constant" valueRef="Side.Buy"/><group name="g" id="4"><field name="b" id="5" type="uint8"/></group><data name="d" id="6" type="text"/>`
	base := load(t, inM("", parts))
	bad := copied(base)
	bad.Types = append(bad.Types, letters("Z", "\x00"))
	met := map[api.Errno]int{}
	for _, change := range []func(s *api.Schema){
		func(s *api.Schema) { s.Package = "" },
		func(s *api.Schema) { s.Package = "a..b" },
		func(s *api.Schema) { s.ID = -1 },
		func(s *api.Schema) { s.Version = 65535 },
		func(s *api.Schema) { s.Order = 2 },
		func(s *api.Schema) { s.Types = nil },
		func(s *api.Schema) { s.Types[3].Name = "INT" },
		func(s *api.Schema) { s.Types[11].Kind = 4 },
		func(s *api.Schema) { s.Types[11].Kind = -1 },
		func(s *api.Schema) { s.Types[12].Depth = 3 },
		func(s *api.Schema) { s.Types[11].Name = "uint8" },
		func(s *api.Schema) { s.Types[13].Name = "blockLength" },
		func(s *api.Schema) { s.Types[12].Prim = 11 },
		func(s *api.Schema) { s.Types[12].Length = 0 },
		func(s *api.Schema) { s.Types[23].Const = nil },
		func(s *api.Schema) { s.Types[23].Presence = 3 },
		func(s *api.Schema) { s.Types[22].Values[1].Value = 1 },
		func(s *api.Schema) { s.Types[13].Offset = 1 },
		func(s *api.Schema) { s.Header = -1 },
		func(s *api.Schema) { s.Header = 16 },
		func(s *api.Schema) { s.Header = len(s.Types) },
		func(s *api.Schema) { s.ID = 65535 },
		func(s *api.Schema) { s.Version = 0 },
		func(s *api.Schema) { s.Parts[0].Depth = 2 },
		func(s *api.Schema) { s.Parts[1].Kind = 4 },
		func(s *api.Schema) { s.Parts[1].Kind = -1 },
		func(s *api.Schema) { s.Parts[1].Type = -1 },
		func(s *api.Schema) { s.Parts[2].ID = 1 },
		func(s *api.Schema) { s.Parts[2].Name = "a" },
		func(s *api.Schema) { s.Parts = slices.Insert(slices.Clone(s.Parts[:6]), 4, s.Parts[6]) },
		func(s *api.Schema) { s.Parts[1].Type = 19 },
		func(s *api.Schema) { s.Parts[1].Presence = 3 },
		func(s *api.Schema) { s.Parts[2].Const = []uint64{3} },
		func(s *api.Schema) { s.Parts[3].Const = []uint64{2} },
		func(s *api.Schema) { s.Parts[3].Const = nil },
		func(s *api.Schema) { s.Parts[4].Type = 19 },
		func(s *api.Schema) { s.Parts[6].Type = 16 },
		func(s *api.Schema) { s.Parts[1].Since = 2 },
		func(s *api.Schema) { s.Parts[1].Since, s.Parts[2].Since, s.Parts[3].Since = 1, 1, 1 },
		func(s *api.Schema) { s.Parts[1].Size = 3 },
		func(s *api.Schema) { s.Parts[1].Offset = -1 },
		func(s *api.Schema) { s.Parts[1].Offset = 65532 },
		func(s *api.Schema) { s.Parts[0].Block = 3 },
		func(s *api.Schema) { s.Parts[0].Block = 65535 },
		func(s *api.Schema) { s.Parts[4].Block = 65535 },
	} {
		for _, from := range []api.Schema{base, bad} {
			s := copied(from)
			change(&s)
			want, _ := schema.Valid(s)
			if want == api.OK {
				t.Fatalf("%+v is valid", s)
			}
			met[want]++
			if _, e := hold(t, s); e != want {
				t.Errorf("error %d, want %d: %+v", e, want, s)
			}
		}
	}
	for _, e := range []api.Errno{api.ErrSchemaMade, api.ErrTypeNone, api.ErrTypeKind, api.ErrTypeName, api.ErrTypeTwice, api.ErrTypeLength, api.ErrTypeValue, api.ErrTypeEnum, api.ErrTypeOffset, api.ErrHeader, api.ErrSince, api.ErrIDTwice, api.ErrNameTwice, api.ErrPartOrder, api.ErrDimension, api.ErrLengthType, api.ErrNotOptional, api.ErrLayOver, api.ErrLayBig, api.ErrLayBlock} {
		if met[e] == 0 {
			t.Errorf("error %d wasn't met", e)
		}
	}
	cant(t, bad)
	if _, e := hold(t, api.Schema{}); e != api.ErrSchemaMade {
		t.Errorf("of nothing: %d", e)
	}
}

// nested is composites in one another up to a Depth, and a node right inside the last.
func nested(depth int, last api.TypeNode) []api.TypeNode {
	var ns []api.TypeNode
	for d := 1; d < depth; d++ {
		ns = append(ns, composite(d, "C", last.Size))
	}
	last.Depth = depth
	return append(ns, last)
}

// P10.1: declarations that stand too deep: a node's stands two deeper than the node, a value's one deeper than that.
func TestTooDeep(t *testing.T) {
	one := api.Named{Name: "v", Value: 1}
	for _, c := range []struct {
		last    api.TypeNode
		deepest int
	}{
		{simple(0, "x", api.Uint8, 1), 14},
		{fixed(0, "x", api.Uint8, 1), 14},
		{composite(0, "x", 0), 14},
		{enum(0, "x", api.Uint8), 14},
		{set(0, "x", api.Uint8), 14},
		{enum(0, "x", api.Uint8, one), 13},
		{set(0, "x", api.Uint8, one), 13},
	} {
		for depth := 10; depth <= 16; depth++ {
			s := withNodes(t, nested(depth, c.last)...)
			_, e := hold(t, s)
			if (e == api.OK) != (depth <= c.deepest) {
				t.Errorf("%+v at %d: %d", c.last, depth, e)
			}
			if depth > c.deepest {
				cant(t, s)
			}
		}
	}
	cantNodes(t, nested(17, simple(0, "x", api.Uint8, 1))...)
	// Loaded by refs.
	text := `<composite name="R14"><type name="x" primitiveType="uint8"/></composite>`
	for i := 13; i >= 0; i-- {
		text = fmt.Sprintf(`<composite name="R%d"><ref name="a" type="R%d"/></composite>`, i, i+1) + text
	}
	cant(t, load(t, whole(header+text, "")))
	fewer := strings.ReplaceAll(text, `<composite name="R0"><ref name="a" type="R1"/></composite>`, "")
	fewer = strings.ReplaceAll(fewer, `<composite name="R1"><ref name="a" type="R2"/></composite>`, "")
	if _, e := hold(t, load(t, whole(header+fewer, ""))); e != api.OK {
		t.Errorf("as deep as may be: %d", e)
	}
}

// fields is a schema whose one message has so many fields, of a type without bytes.
func fields(t testing.TB, n int) api.Schema {
	s := load(t, whole(header+two, `<message name="M" id="1"/>`))
	for i := range n {
		s.Parts = append(s.Parts, api.Part{Depth: 2, Kind: api.PartField, Name: fmt.Sprintf("f%d", i), ID: i, Type: 16, Presence: api.Constant, Const: []uint64{2}, Deprecated: -1})
	}
	return s
}

// P10.1: declarations that are too many: parts, values, bits, nodes.
func TestTooMany(t *testing.T) {
	named := func(n int) []api.Named {
		var vs []api.Named
		for i := range n {
			vs = append(vs, api.Named{Name: fmt.Sprintf("v%d", i), Value: uint64(i)})
		}
		return vs
	}
	most := api.MaxElems
	// The schema, types, the header's five and Two, the message; or the enum.
	byNodes := func(n int) api.Schema {
		ns := []api.TypeNode{composite(1, "C", n)}
		for i := range n {
			ns = append(ns, simple(2, fmt.Sprintf("m%d", i), api.Int8, 1, at(i)))
		}
		s := withNodes(t, ns...)
		for i := range 10 {
			s.Parts = append(s.Parts, api.Part{Depth: 1, Kind: api.PartMessage, Name: fmt.Sprintf("M%d", i), ID: i, Deprecated: -1})
		}
		return s
	}
	for _, c := range []struct{ fits, many api.Schema }{
		{fields(t, most-9), fields(t, most-8)},
		{withNodes(t, enum(1, "E", api.Uint16, named(most-8)...)), withNodes(t, enum(1, "E", api.Uint16, named(most-7)...))},
		{byNodes(most - 18), byNodes(most - 17)},
	} {
		ds, e := canon.Decls(c.fits)
		if e != api.OK || len(ds) != most {
			t.Errorf("P10.1: just enough: %d of them, error %d", len(ds), e)
		}
		out, e := canon.Print(c.fits)
		if e != api.OK {
			t.Errorf("P10.2: just enough: error %d", e)
		}
		if s, e, at := schema.Load(out); e != api.OK || !alike(s, c.fits) {
			t.Errorf("P10.4: just enough: error %d at %d", e, at)
		}
		if s, e, at := schema.Build(ds); e != api.OK || !alike(s, c.fits) {
			t.Errorf("P10.4: just enough: error %d at %d", e, at)
		}
		if e, n := schema.Valid(c.many); e != api.OK {
			t.Fatalf("one too many: %d, %d", e, n)
		}
		cant(t, c.many)
	}
	// By refs: a composite of many members put in several times.
	text := `<composite name="C">`
	for i := range 4000 {
		text += fmt.Sprintf(`<enum name="m%d" encodingType="uint8"><validValue name="a">1</validValue></enum>`, i)
	}
	text += `</composite><composite name="D"><ref name="a" type="C"/></composite>`
	if ds, e := canon.Decls(load(t, whole(header+text, ""))); e != api.OK || len(ds) != 7+8001+8002 {
		t.Errorf("what refs named: %d of them, error %d", len(ds), e)
	}
	cant(t, load(t, whole(header+text+`<composite name="F"><ref name="a" type="C"/></composite>`, "")))
}

// long is a schema of constants whose text has just so many bytes.
func long(t testing.TB, bytes int) api.Schema {
	s := withNodes(t)
	room := bytes - len(whole(header, ""))
	for i := 0; room > 0; i++ {
		name := fmt.Sprintf("K%02d", i)
		room -= len(`<type name="K00" primitiveType="char" presence="constant"></type>`)
		n := min(room, 60000)
		// The last but one leaves room for one more.
		if room > n && room < n+200 {
			n -= 1000
		}
		s.Types = append(s.Types, letters(name, strings.Repeat("x", n)))
		room -= n
	}
	return s
}

// P10.2: texts about as long as may be.
func TestTextsAboutAsLongAsMayBe(t *testing.T) {
	for _, more := range []int{-2, -1, 0, 1, 2} {
		s := long(t, api.MaxInput+more)
		ds, e := canon.Decls(s)
		if e != api.OK {
			t.Fatalf("P10.1: error %d", e)
		}
		if built, e, _ := schema.Build(ds); e != api.OK || !alike(built, s) {
			t.Errorf("P10.4: Build of a long one: %d", e)
		}
		out, e := canon.Print(s)
		if more > 0 {
			if e != api.ErrCanon || out != "" {
				t.Errorf("P10.2: %d bytes beyond: error %d", more, e)
			}
			continue
		}
		if e != api.OK || len(out) != api.MaxInput+more {
			t.Errorf("P10.2: %d bytes, error %d", len(out), e)
		}
		if loaded, e, _ := schema.Load(out); e != api.OK || !alike(loaded, s) {
			t.Errorf("P10.4: Load of a long one: %d", e)
		}
	}
	// What has to be written as an entity counts as it is written.
	s := long(t, api.MaxInput-3)
	s.Types[20].Const[7] = '<'
	if out, e := canon.Print(s); e != api.OK || len(out) != api.MaxInput {
		t.Errorf("P10.2: with an entity: %d bytes, error %d", len(out), e)
	}
	s.Types[20].Const[9] = '>'
	if out, e := canon.Print(s); e != api.ErrCanon || out != "" {
		t.Errorf("P10.2: with two: %d bytes, error %d", len(out), e)
	}
	if _, e := canon.Decls(s); e != api.OK {
		t.Errorf("P10.1: with two: error %d", e)
	}
	// Far beyond.
	wide := slices.Repeat([]uint64{0x0123456789ABCDEF}, 65535)
	s = withNodes(t, fixed(1, "K", api.Double, wide...))
	if out, e := canon.Print(s); e != api.ErrCanon || out != "" {
		t.Errorf("P10.2: far beyond: %d", e)
	}
	if ds, e := canon.Decls(s); e != api.OK || len(ds) != 8 || ds[7].Length != 65535 {
		t.Errorf("P10.1: far beyond: %d", e)
	}
	if lines, e := canon.Outline(s); e != api.OK || len(lines) != 0 {
		t.Errorf("P10.3: far beyond: %d", e)
	}
}

// P10.3: the chapter's example, and a line of each Kind.
func TestOutline(t *testing.T) {
	told := func(s string, want ...string) {
		t.Helper()
		lines, e := canon.Outline(load(t, s))
		if e != api.OK || !slices.Equal(lines, want) {
			t.Errorf("%d\n%s\nwant\n%s", e, strings.Join(lines, "\n"), strings.Join(want, "\n"))
		}
	}
	told(whole(header, `<message name="Ping" id="1" blockLength="6"><field name="seq" id="1" type="uint32"/></message>`),
		"message Ping id 1 since 0 block 6", "  field seq id 1 since 0 type uint32 required at 0 size 4")
	told(whole(header, ""))
	told(whole(header, `<message name="A" id="65534" sinceVersion="1"/><message name="B" id="0"/>`), "message A id 65534 since 1 block 0", "message B id 0 since 0 block 0")
	told(inM(`<type name="Maybe" primitiveType="uint8" presence="optional"/>`, `<field name="a" id="9" type="Side"/><field name="b" id="8" type="Maybe" offset="5" deprecated="1"/><field name="c" id="7" type="Two"/><field name="d" id="6" type="Side" presence="constant" valueRef="Side.Sell" sinceVersion="1"/><field name="e" id="5" type="messageHeader" presence="optional" sinceVersion="1"/><group name="g" id="4" blockLength="12"><field name="a" id="3" type="Maybe" presence="required"/><group name="h" id="2"/><data name="x" id="1" type="text"/></group><data name="i" id="0" type="text" sinceVersion="1"/>`),
		"message M id 1 since 0 block 14",
		"  field a id 9 since 0 type Side required at 0 size 1",
		"  field b id 8 since 0 type Maybe optional at 5 size 1",
		"  field c id 7 since 0 type Two constant at 0 size 0",
		"  field d id 6 since 1 type Side constant at 0 size 0",
		"  field e id 5 since 1 type messageHeader optional at 6 size 8",
		"  group g id 4 since 0 type groupSizeEncoding block 12",
		"    field a id 3 since 0 type Maybe required at 0 size 1",
		"    group h id 2 since 0 type groupSizeEncoding block 0",
		"    data x id 1 since 0 type text",
		"  data i id 0 since 1 type text",
	)
}

// P10.3: parts of each Depth.
func TestOutlineOfEachDepth(t *testing.T) {
	parts, want := `<field name="f" id="0" type="int8"/>`, []string{strings.Repeat("  ", 9) + "field f id 0 since 0 type int8 required at 0 size 1"}
	for i := 8; i >= 1; i-- {
		parts = fmt.Sprintf(`<group name="g%d" id="%d">%s</group>`, i, i, parts)
		block := 0
		if i == 8 {
			block = 1
		}
		want = append([]string{fmt.Sprintf("%sgroup g%d id %d since 0 type groupSizeEncoding block %d", strings.Repeat("  ", i), i, i, block)}, want...)
	}
	want = append([]string{"message M id 1 since 0 block 0"}, want...)
	lines, e := canon.Outline(load(t, inM("", parts)))
	if e != api.OK || !slices.Equal(lines, want) {
		t.Errorf("%d\n%s\nwant\n%s", e, strings.Join(lines, "\n"), strings.Join(want, "\n"))
	}
}

// P10.3: what no text means is told all the same, also more parts than a text can have.
func TestOutlineOfWhatIsUnsaid(t *testing.T) {
	s := fields(t, 30000)
	lines, e := canon.Outline(s)
	if e != api.OK || len(lines) != 30001 || lines[30000] != "  field f29999 id 29999 since 0 type Two constant at 0 size 0" {
		t.Errorf("%d lines, error %d", len(lines), e)
	}
}
