package canon_test

import (
	"fmt"
	"slices"
	"strings"
	"testing"

	"stencil/api"
	"stencil/canon"
	"stencil/decl"
	"stencil/prim"
	"stencil/schema"
	"stencil/types"
	"stencil/xmltree"
)

// The pieces of a text that is printed.
const (
	header    = `<composite name="messageHeader"><type name="blockLength" primitiveType="uint16"/><type name="templateId" primitiveType="uint16"/><type name="schemaId" primitiveType="uint16"/><type name="version" primitiveType="uint16"/></composite>`
	dimension = `<composite name="groupSizeEncoding"><type name="blockLength" primitiveType="uint16"/><type name="numInGroup" primitiveType="uint8"/></composite>`
	varText   = `<composite name="text"><type name="length" primitiveType="uint8"/><type name="varData" primitiveType="char" length="0"/></composite>`
	side      = `<enum name="Side" encodingType="uint8"><validValue name="Buy">1</validValue><validValue name="Sell" sinceVersion="1">2</validValue></enum>`
	two       = `<type name="Two" primitiveType="uint8" presence="constant">2</type>`
	chapter   = header + dimension + varText + side + two
)

// whole is the text of a schema of the version 1 with these types and messages.
func whole(ts, messages string) string {
	return `<messageSchema package="p" id="7" version="1"><types>` + ts + `</types>` + messages + `</messageSchema>`
}

// inM is the text with the chapter's types, and more, whose one message has the id 1 and these parts.
func inM(more, parts string) string {
	if parts == "" {
		return whole(chapter+more, `<message name="M" id="1"/>`)
	}
	return whole(chapter+more, `<message name="M" id="1">`+parts+`</message>`)
}

func load(t testing.TB, s string) api.Schema {
	t.Helper()
	got, e, at := schema.Load(s)
	if e != api.OK {
		t.Fatalf("%.3000s: error %d at %d", s, e, at)
	}
	return got
}

// chapterSchema is M of the chapter's examples.
func chapterSchema(t testing.TB) api.Schema { return load(t, inM("", "")) }

// read is the declarations of a text, all At 0.
func read(t testing.TB, s string) []api.Decl {
	t.Helper()
	es, e, at := xmltree.Parse(s)
	if e != api.OK {
		t.Fatalf("%.3000s: error %d at %d", s, e, at)
	}
	ds, e, at := decl.Read(es)
	if e != api.OK {
		t.Fatalf("%.3000s: declarations: error %d at %d", s, e, at)
	}
	for i := range ds {
		ds[i].At = 0
	}
	return ds
}

// says sees that a schema is said by just this text, and the declarations by those that are read of it.
func says(t *testing.T, s api.Schema, want string) {
	t.Helper()
	got, e := hold(t, s)
	if e != api.OK || got != want {
		t.Errorf("P10.2: error %d, %s\nwant %s", e, got, want)
		return
	}
	ds, e := canon.Decls(s)
	if e != api.OK || !slices.Equal(ds, read(t, want)) {
		t.Errorf("P10.1: of %s: error %d, %+v", want, e, ds)
	}
}

// cant sees that a valid schema is refused by Decls and Print, and told by Outline.
func cant(t *testing.T, s api.Schema) {
	t.Helper()
	if ds, e := canon.Decls(s); e != api.ErrCanon || len(ds) != 0 {
		t.Errorf("P10.1: Decls(%+v): %+v, %d", s.Types[11:], ds, e)
	}
	if out, e := canon.Print(s); e != api.ErrCanon || out != "" {
		t.Errorf("P10.2: Print(%+v): %s, %d", s.Types[11:], out, e)
	}
	if lines, e := canon.Outline(s); e != api.OK || len(lines) != len(s.Parts) {
		t.Errorf("P10.3: Outline(%+v): %q, %d", s.Types[11:], lines, e)
	}
}

// withNodes is a schema of a header and these nodes, which its text says behind the header.
func withNodes(t testing.TB, ns ...api.TypeNode) api.Schema {
	s := load(t, whole(header, ""))
	s.Types = append(s.Types, ns...)
	if e, n := schema.Valid(s); e != api.OK {
		t.Fatalf("%+v: error %d, %d", ns, e, n)
	}
	return s
}

func saysNodes(t *testing.T, want string, ns ...api.TypeNode) {
	t.Helper()
	says(t, withNodes(t, ns...), whole(header+want, ""))
}

func cantNodes(t *testing.T, ns ...api.TypeNode) {
	t.Helper()
	cant(t, withNodes(t, ns...))
}

// simple is a type of so many elements.
func simple(depth int, name string, p api.Prim, length int, more ...func(n *api.TypeNode)) api.TypeNode {
	n := api.TypeNode{Depth: depth, Kind: api.TypeSimple, Name: name, Prim: p, Length: length, Size: length * prim.Size(p), Null: prim.Null(p), Min: prim.Min(p), Max: prim.Max(p)}
	for _, change := range more {
		change(&n)
	}
	return n
}

func optional(n *api.TypeNode) { n.Presence = api.Optional }

func null(w uint64) func(n *api.TypeNode) { return func(n *api.TypeNode) { n.Null = w } }

func least(w uint64) func(n *api.TypeNode) { return func(n *api.TypeNode) { n.Min = w } }

func most(w uint64) func(n *api.TypeNode) { return func(n *api.TypeNode) { n.Max = w } }

func at(offset int) func(n *api.TypeNode) { return func(n *api.TypeNode) { n.Offset = offset } }

// fixed is a constant type.
func fixed(depth int, name string, p api.Prim, words ...uint64) api.TypeNode {
	n := simple(depth, name, p, len(words))
	n.Presence, n.Size, n.Const = api.Constant, 0, words
	return n
}

// letters is a constant type of Char.
func letters(name, s string) api.TypeNode {
	var words []uint64
	for i := range len(s) {
		words = append(words, uint64(s[i]))
	}
	return fixed(1, name, api.Char, words...)
}

func enum(depth int, name string, p api.Prim, values ...api.Named) api.TypeNode {
	n := simple(depth, name, p, 1)
	n.Kind, n.Values = api.TypeEnum, values
	return n
}

func set(depth int, name string, p api.Prim, values ...api.Named) api.TypeNode {
	n := enum(depth, name, p, values...)
	n.Kind, n.Null = api.TypeSet, 0
	return n
}

func composite(depth int, name string, size int) api.TypeNode {
	return api.TypeNode{Depth: depth, Kind: api.TypeComposite, Name: name, Size: size}
}

func changed(n api.TypeNode, more ...func(n *api.TypeNode)) api.TypeNode {
	for _, change := range more {
		change(&n)
	}
	return n
}

// word is that of a signed number.
func word(n int64) uint64 { return uint64(n) }

// P10.1: the chapter's first two examples, as they stand there.
func TestFirstExamples(t *testing.T) {
	s := chapterSchema(t)
	ds, e := canon.Decls(s)
	if e != api.OK {
		t.Fatal(e)
	}
	plain := func(depth int, kind api.DeclKind, name, typ string) api.Decl {
		return api.Decl{Depth: depth, Kind: kind, Name: name, Type: typ, ID: -1, Length: -1, Offset: -1, Block: -1, Deprecated: -1}
	}
	top := plain(1, api.DeclSchema, "p", "messageHeader")
	top.ID, top.Version = 7, 1
	data := plain(4, api.DeclType, "varData", "char")
	data.Length = 0
	buy, sell := plain(4, api.DeclValid, "Buy", ""), plain(4, api.DeclValid, "Sell", "")
	buy.Value, sell.Value, sell.Since = "1", "2", 1
	two := plain(3, api.DeclType, "Two", "uint8")
	two.HasPresence, two.Presence, two.Value = true, api.Constant, "2"
	message := plain(2, api.DeclMessage, "M", "")
	message.ID = 1
	want := []api.Decl{
		top,
		plain(2, api.DeclTypes, "", ""),
		plain(3, api.DeclComposite, "messageHeader", ""),
		plain(4, api.DeclType, "blockLength", "uint16"),
		plain(4, api.DeclType, "templateId", "uint16"),
		plain(4, api.DeclType, "schemaId", "uint16"),
		plain(4, api.DeclType, "version", "uint16"),
		plain(3, api.DeclComposite, "groupSizeEncoding", ""),
		plain(4, api.DeclType, "blockLength", "uint16"),
		plain(4, api.DeclType, "numInGroup", "uint8"),
		plain(3, api.DeclComposite, "text", ""),
		plain(4, api.DeclType, "length", "uint8"),
		data,
		plain(3, api.DeclEnum, "Side", "uint8"), buy, sell,
		two,
		message,
	}
	if !slices.Equal(ds, want) {
		t.Errorf("Decls(M):\n%+v\nwant\n%+v", ds, want)
	}
	says(t, s, inM("", ""))
}

// P10.1: the chapter's third example: what lay.Plain says of members, fields and blocks.
func TestOffsetsExample(t *testing.T) {
	saysNodes(t, `<composite name="C"><type name="a" primitiveType="int32"/><type name="b" primitiveType="uint8" offset="6"/></composite>`,
		composite(1, "C", 7), simple(2, "a", api.Int32, 1), simple(2, "b", api.Uint8, 1, at(6)))
	s := load(t, inM("", `<field name="a" id="1" type="uint8"/><field name="b" id="2" type="int32" offset="4"/><field name="c" id="3" type="uint8" offset="8"/>`))
	fields := `<field name="a" id="1" type="uint8"/><field name="b" id="2" type="int32" offset="4"/><field name="c" id="3" type="uint8"/>`
	says(t, s, inM("", fields))
	s.Parts[0].Block = 10
	says(t, s, whole(chapter, `<message name="M" id="1" blockLength="10">`+fields+`</message>`))
}

// P10.1: the chapter's fourth and fifth example: simple types, constants of Char, coding names.
func TestTypesExamples(t *testing.T) {
	saysNodes(t, `<type name="A" primitiveType="char" length="6" nullValue="#32"/>`, simple(1, "A", api.Char, 6, null(32)))
	saysNodes(t, `<type name="A" primitiveType="char" length="3" presence="constant">AB</type>`, fixed(1, "A", api.Char, 65, 66, 0))
	saysNodes(t, `<type name="A" primitiveType="char" presence="constant">AB</type>`, fixed(1, "A", api.Char, 65, 66))
	cantNodes(t, fixed(1, "A", api.Char, 0))
	cantNodes(t, fixed(1, "A", api.Char, 32, 65))

	minus := changed(enum(1, "E", api.Int64), null(word(-1)))
	saysNodes(t, `<type name="Price" primitiveType="int64" nullValue="-1"/><enum name="E" encodingType="Price"/>`, simple(1, "Price", api.Int64, 1, null(word(-1))), minus)
	cantNodes(t, minus)
}

// P10.1: the chapter's sixth example: a constant field by a value.
func TestValueRefExample(t *testing.T) {
	s := chapterSchema(t)
	s.Parts = append(s.Parts, api.Part{Depth: 2, Kind: api.PartField, Name: "f", ID: 1, Type: types.Find(s.Types, "Side"), Presence: api.Constant, Since: 1, Deprecated: -1, Const: []uint64{2}})
	says(t, s, inM("", `<field name="f" id="1" type="Side" presence="constant" valueRef="Side.Sell" sinceVersion="1"/>`))
	ds, _ := canon.Decls(s)
	if d := ds[len(ds)-1]; !d.HasPresence || d.Presence != api.Constant || d.Value != "Side.Sell" || d.Since != 1 || d.Offset != -1 {
		t.Errorf("%+v", d)
	}
}

// P10.1: the schema's own declaration.
func TestSchemaDecl(t *testing.T) {
	s := load(t, whole(header, ""))
	s.Version = 0
	says(t, s, `<messageSchema package="p" id="7"><types>`+header+`</types></messageSchema>`)
	s.Package, s.ID, s.Version, s.Order = "a.b_1.C", 0, 65534, api.Big
	says(t, s, `<messageSchema package="a.b_1.C" id="0" version="65534" byteOrder="bigEndian"><types>`+header+`</types></messageSchema>`)
	s.Types[11].Name = "top"
	says(t, s, `<messageSchema package="a.b_1.C" id="0" version="65534" byteOrder="bigEndian" headerType="top"><types>`+strings.Replace(header, "messageHeader", "top", 1)+`</types></messageSchema>`)
	// The header is told by its place, not by its name.
	other := strings.Replace(header, "messageHeader", "other", 1)
	says(t, load(t, strings.Replace(whole(header+other, ""), `id="7"`, `id="7" headerType="other"`, 1)), `<messageSchema package="p" id="7" version="1" headerType="other"><types>`+header+other+`</types></messageSchema>`)
}

// P10.1: each primitive type, of one element and of more, with each Presence.
func TestSimpleTypes(t *testing.T) {
	for i, name := range primNames {
		p := api.Prim(i)
		said := `<type name="A" primitiveType="` + name + `"`
		saysNodes(t, said+"/>", simple(1, "A", p, 1))
		saysNodes(t, said+` presence="optional"/>`, simple(1, "A", p, 1, optional))
		saysNodes(t, said+` length="2"/>`, simple(1, "A", p, 2))
		saysNodes(t, said+` length="17" presence="optional"/>`, simple(1, "A", p, 17, optional))
		long := 65535 / prim.Size(p)
		saysNodes(t, fmt.Sprintf(`%s length="%d"/>`, said, long), simple(1, "A", p, long))
		// Of a composite's member.
		saysNodes(t, `<composite name="C">`+said+` length="3" presence="optional"/></composite>`, composite(1, "C", 3*prim.Size(p)), simple(2, "A", p, 3, optional))
	}
	// Variable data: the Length 0 is said.
	saysNodes(t, `<composite name="C"><type name="A" primitiveType="double" length="0"/></composite>`, composite(1, "C", 0), simple(2, "A", api.Double, 0))
}

// P10.1: null, least and greatest values, each by itself, where they aren't the primitive type's.
func TestNullMinMax(t *testing.T) {
	for _, c := range []struct {
		p    api.Prim
		w    uint64
		text string
	}{
		{api.Char, 65, "A"}, {api.Char, 1, "#1"}, {api.Char, 255, "#255"}, {api.Char, 44, "#44"}, {api.Char, 35, "#35"}, {api.Char, '"', "&quot;"}, {api.Char, '<', "&lt;"},
		{api.Int8, word(-1), "-1"}, {api.Int16, 5, "5"}, {api.Int32, word(-70000), "-70000"}, {api.Int64, 1 << 40, "1099511627776"},
		{api.Uint8, 7, "7"}, {api.Uint16, 300, "300"}, {api.Uint32, 1 << 31, "2147483648"}, {api.Uint64, 1 << 63, "9223372036854775808"},
		{api.Float, 0x3F800000, "1"}, {api.Float, 0x7FC00001, "0x7FC00001"}, {api.Float, 0x80000000, "-0"}, {api.Double, 0x7FF0000000000000, "INF"}, {api.Double, 0xC004000000000000, "-2.5"},
	} {
		said := `<type name="A" primitiveType="` + primNames[c.p] + `"`
		for attribute, change := range map[string]func(uint64) func(*api.TypeNode){"nullValue": null, "minValue": least, "maxValue": most} {
			saysNodes(t, said+` `+attribute+`="`+c.text+`"/>`, simple(1, "A", c.p, 1, change(c.w)))
			saysNodes(t, said+` length="2" presence="optional" `+attribute+`="`+c.text+`"/>`, simple(1, "A", c.p, 2, optional, change(c.w)))
		}
		saysNodes(t, strings.ReplaceAll(said+` nullValue="X" minValue="X" maxValue="X"/>`, "X", c.text), simple(1, "A", c.p, 1, null(c.w), least(c.w), most(c.w)))
	}
	// One's usual value at another's place has to be said.
	for i, name := range primNames {
		p := api.Prim(i)
		n := simple(1, "A", p, 1, null(prim.Min(p)), least(prim.Max(p)), most(prim.Null(p)))
		out, e := hold(t, withNodes(t, n))
		if e != api.OK || !strings.Contains(out, ` nullValue="`) || !strings.Contains(out, ` minValue="`) || !strings.Contains(out, ` maxValue="`) {
			t.Errorf("%s: %s, %d", name, out, e)
		}
	}
	saysNodes(t, `<type name="A" primitiveType="float" nullValue="0" minValue="NaN" maxValue="0"/>`, simple(1, "A", api.Float, 1, null(0), least(0x7FC00000), most(0)))
	// Of a constant too.
	saysNodes(t, `<type name="A" primitiveType="int8" presence="constant" nullValue="1" minValue="2" maxValue="3">4</type>`, changed(fixed(1, "A", api.Int8, 4), null(1), least(2), most(3)))
	saysNodes(t, `<type name="A" primitiveType="char" presence="constant" nullValue="1" maxValue="3">4</type>`, changed(fixed(1, "A", api.Char, '4'), null('1'), least(' '), most('3')))
}

// P10.1: constants of numbers.
func TestConstantNumbers(t *testing.T) {
	for _, c := range []struct {
		p     api.Prim
		words []uint64
		text  string
	}{
		{api.Int8, []uint64{word(-128)}, "-128"}, {api.Int16, []uint64{word(-2), 3}, "-2,3"}, {api.Int32, []uint64{0}, "0"}, {api.Int64, []uint64{1 << 63}, "-9223372036854775808"},
		{api.Uint8, []uint64{255, 0, 0}, "255,0,0"}, {api.Uint16, []uint64{65535}, "65535"}, {api.Uint32, []uint64{1, 2, 3, 4}, "1,2,3,4"}, {api.Uint64, []uint64{1<<64 - 1}, "18446744073709551615"},
		{api.Float, []uint64{0x7FC00000, 0xFF800000, 0x80000000, 0}, "NaN,-INF,-0,0"}, {api.Double, []uint64{0x3FB999999999999A, 0xFFFFFFFFFFFFFFFF}, "0.1,0xFFFFFFFFFFFFFFFF"},
	} {
		length := ""
		if len(c.words) != 1 {
			length = fmt.Sprintf(` length="%d"`, len(c.words))
		}
		said := `<type name="K" primitiveType="` + primNames[c.p] + `"` + length + ` presence="constant">` + c.text + `</type>`
		saysNodes(t, said, fixed(1, "K", c.p, c.words...))
		saysNodes(t, `<composite name="C">`+said+`</composite>`, composite(1, "C", 0), fixed(2, "K", c.p, c.words...))
	}
	long := slices.Repeat([]uint64{9}, 65535)
	saysNodes(t, `<type name="K" primitiveType="uint64" length="65535" presence="constant">9`+strings.Repeat(",9", 65534)+`</type>`, fixed(1, "K", api.Uint64, long...))
}

// P10.1: constants of Char whose text can be said: its Length is said where zeros stand at its end.
func TestConstantChars(t *testing.T) {
	for text, said := range map[string]string{
		"A": "A", "0": "0", "#": "#", "#65": "#65", ",": ",", "A B": "A B", "A,B": "A,B", "A\tB\nC": "A\tB\nC", "A\rB": "A&#13;B", "\v": "", "<&>": "&lt;&amp;&gt;", `"'`: `"'`, "]]>": "]]&gt;",
		"é": "é", "€": "€", "\U0001F600": "\U0001F600", "\u0085": "\u0085", "\u00a0": "\u00a0", "\x7f": "\x7f",
	} {
		if said == "" {
			cantNodes(t, letters("K", text))
			continue
		}
		saysNodes(t, `<type name="K" primitiveType="char" presence="constant">`+said+`</type>`, letters("K", text))
		for zeros := 1; zeros < 5; zeros++ {
			saysNodes(t, fmt.Sprintf(`<type name="K" primitiveType="char" length="%d" presence="constant">%s</type>`, len(text)+zeros, said), letters("K", text+strings.Repeat("\x00", zeros)))
		}
	}
	long := strings.Repeat("y", 65535)
	saysNodes(t, `<type name="K" primitiveType="char" presence="constant">`+long+`</type>`, letters("K", long))
	saysNodes(t, `<type name="K" primitiveType="char" length="65535" presence="constant">y</type>`, letters("K", "y"+strings.Repeat("\x00", 65534)))
}

// P10.1: constants whose text can't be said.
func TestConstantsUnsaid(t *testing.T) {
	for _, s := range []string{
		"\x00", "\x00\x00", " ", "\t", "\n", "\r", " A", "A ", "\tA", "A\n", "A\r", "A \x00", " \x00", "A\x00B", "\x00A", "A\x00B\x00",
		"\x01", "A\x1f", "\x0b", "\xff", "A\xc3", "\xc3\x00", "\x80", "\xed\xa0\x80", "\xef\xbf\xbe", "\xf4\x90\x80\x80", "\xc0\x80",
	} {
		cantNodes(t, letters("K", s))
		// Wherever it stands.
		cantNodes(t, simple(1, "A", api.Int8, 1), letters("K", s), simple(1, "Z", api.Int8, 1))
		cantNodes(t, composite(1, "C", 0), composite(2, "D", 0), changed(letters("K", s), func(n *api.TypeNode) { n.Depth = 3 }))
	}
}

// P10.1: enums and their values.
func TestEnums(t *testing.T) {
	saysNodes(t, `<enum name="E" encodingType="char"><validValue name="A">A</validValue><validValue name="B">#0</validValue><validValue name="C">#32</validValue><validValue name="D">#35</validValue><validValue name="E">#44</validValue><validValue name="F">&lt;</validValue><validValue name="G">#255</validValue></enum>`,
		enum(1, "E", api.Char, api.Named{Name: "A", Value: 65}, api.Named{Name: "B"}, api.Named{Name: "C", Value: 32}, api.Named{Name: "D", Value: 35}, api.Named{Name: "E", Value: 44}, api.Named{Name: "F", Value: '<'}, api.Named{Name: "G", Value: 255}))
	for p := api.Int8; p <= api.Uint64; p++ {
		name := primNames[p]
		saysNodes(t, `<enum name="E" encodingType="`+name+`"/>`, enum(1, "E", p))
		text, value := "200", uint64(200)
		if prim.Signed(p) {
			text, value = "-128", word(-128)
		}
		saysNodes(t, `<enum name="E" encodingType="`+name+`"><validValue name="z" sinceVersion="1">`+text+`</validValue><validValue name="a">0</validValue></enum>`,
			enum(1, "E", p, api.Named{Name: "z", Value: value, Since: 1}, api.Named{Name: "a"}))
	}
	// As a member, with its offset.
	saysNodes(t, `<composite name="C"><enum name="E" encodingType="uint16" offset="3"><validValue name="a">1</validValue></enum></composite>`,
		composite(1, "C", 5), changed(enum(2, "E", api.Uint16, api.Named{Name: "a", Value: 1}), at(3)))
}

// P10.1: sets and their bits.
func TestSets(t *testing.T) {
	for p := api.Uint8; p <= api.Uint64; p++ {
		name, last := primNames[p], uint64(8*prim.Size(p)-1)
		saysNodes(t, `<set name="F" encodingType="`+name+`"/>`, set(1, "F", p))
		saysNodes(t, fmt.Sprintf(`<set name="F" encodingType="%s"><choice name="z" sinceVersion="1">%d</choice><choice name="a">0</choice></set>`, name, last),
			set(1, "F", p, api.Named{Name: "z", Value: last, Since: 1}, api.Named{Name: "a"}))
		saysNodes(t, fmt.Sprintf(`<composite name="C"><set name="F" encodingType="%s" offset="1"><choice name="z">%d</choice></set></composite>`, name, last),
			composite(1, "C", 1+prim.Size(p)), changed(set(2, "F", p, api.Named{Name: "z", Value: last}), at(1)))
	}
}

// P10.1: the coding name: the first type with Depth 1 that says the same; of a set its null is no matter.
func TestCodingNames(t *testing.T) {
	odd := func(name string, more ...func(n *api.TypeNode)) api.TypeNode {
		return simple(1, name, api.Uint8, 1, append([]func(n *api.TypeNode){null(3), least(4), most(5)}, more...)...)
	}
	oddText := func(name string) string {
		return `<type name="` + name + `" primitiveType="uint8" nullValue="3" minValue="4" maxValue="5"/>`
	}
	e := changed(enum(1, "E", api.Uint8), null(3), least(4), most(5))
	f := changed(set(1, "F", api.Uint8), least(4), most(5))
	// The first of several; those behind the enum too.
	saysNodes(t, oddText("A")+oddText("B")+`<enum name="E" encodingType="A"/><set name="F" encodingType="A"/>`, odd("A"), odd("B"), e, f)
	saysNodes(t, `<enum name="E" encodingType="B"/><set name="F" encodingType="B"/>`+oddText("B")+oddText("A"), e, f, odd("B"), odd("A"))
	// An optional one is as good, a constant one isn't, nor an array, nor a member, nor one of another type.
	opt := strings.Replace(oddText("A"), ` nullValue`, ` presence="optional" nullValue`, 1)
	saysNodes(t, opt+oddText("B")+`<enum name="E" encodingType="A"/><set name="F" encodingType="A"/>`, odd("A", optional), odd("B"), e, f)
	con := changed(fixed(1, "A", api.Uint8, 4), null(3), least(4), most(5))
	saysNodes(t, `<type name="A" primitiveType="uint8" presence="constant" nullValue="3" minValue="4" maxValue="5">4</type>`+oddText("B")+`<enum name="E" encodingType="B"/><set name="F" encodingType="B"/>`, con, odd("B"), e, f)
	array := odd("A", func(n *api.TypeNode) { n.Length, n.Size = 2, 2 })
	member := odd("A", func(n *api.TypeNode) { n.Depth = 2 })
	alien := simple(1, "A", api.Uint16, 1, null(3), least(4), most(5))
	for _, coded := range []api.TypeNode{e, f} {
		cantNodes(t, coded)
		cantNodes(t, coded, con)
		cantNodes(t, coded, array)
		cantNodes(t, coded, composite(1, "C", 1), member)
		cantNodes(t, coded, alien)
		cantNodes(t, coded, odd("A", least(0)))
		cantNodes(t, coded, odd("A", most(254)))
		cantNodes(t, coded, enumAs(coded, "X"))
		// As a member it looks among the same types.
		inner := changed(coded, func(n *api.TypeNode) { n.Depth = 2 })
		cantNodes(t, composite(1, "C", 1), inner)
		if _, err := hold(t, withNodes(t, composite(1, "C", 1), inner, odd("A"))); err != api.OK {
			t.Errorf("a member's coding name: %d", err)
		}
	}
	// Of an enum the null counts.
	cantNodes(t, e, odd("A", null(255)))
	saysNodes(t, `<set name="F" encodingType="A"/><type name="A" primitiveType="uint8" minValue="4" maxValue="5"/>`, f, odd("A", null(255)))
	saysNodes(t, `<type name="A" primitiveType="uint8" nullValue="9" minValue="4" maxValue="5"/>`+oddText("B")+`<enum name="E" encodingType="B"/><set name="F" encodingType="A"/>`, odd("A", null(9)), odd("B"), e, f)
	// The primitive type's own name, if it says the same.
	saysNodes(t, `<type name="A" primitiveType="uint8"/><enum name="E" encodingType="uint8"/><set name="F" encodingType="uint8"/>`, simple(1, "A", api.Uint8, 1), enum(1, "E", api.Uint8), set(1, "F", api.Uint8))
	// An enum whose null is 0 is no set, and has a type of its own.
	saysNodes(t, `<type name="A" primitiveType="uint8" nullValue="0"/><enum name="E" encodingType="A"/><set name="F" encodingType="uint8"/>`, simple(1, "A", api.Uint8, 1, null(0)), changed(enum(1, "E", api.Uint8), null(0)), set(1, "F", api.Uint8))
	cantNodes(t, changed(enum(1, "E", api.Uint8), null(0)), set(1, "F", api.Uint8))
}

// enumAs is another enum or set of the same coding, which codes nothing.
func enumAs(n api.TypeNode, name string) api.TypeNode {
	n.Name = name
	return n
}

// P10.1: composites: members one deeper, their offsets as lay.Plain has them.
func TestComposites(t *testing.T) {
	saysNodes(t, `<composite name="C"/>`, composite(1, "C", 0))
	// Members that take no bytes have no offset, and cut nothing.
	saysNodes(t, `<composite name="C"><type name="k" primitiveType="int8" presence="constant">1</type><type name="a" primitiveType="uint16" offset="2"/><composite name="n"/><type name="j" primitiveType="int8" presence="constant">1</type><type name="b" primitiveType="uint8"/><type name="c" primitiveType="uint8" offset="9"/></composite>`,
		composite(1, "C", 10), fixed(2, "k", api.Int8, 1), simple(2, "a", api.Uint16, 1, at(2)), composite(2, "n", 0), fixed(2, "j", api.Int8, 1), simple(2, "b", api.Uint8, 1, at(4)), simple(2, "c", api.Uint8, 1, at(9)))
	// Each composite is laid by itself.
	saysNodes(t, `<composite name="C"><composite name="x" offset="1"><type name="a" primitiveType="uint8" offset="4"/><composite name="y"><type name="a" primitiveType="uint8"/></composite></composite><composite name="z"><type name="b" primitiveType="uint8"/></composite><type name="d" primitiveType="uint32" offset="10"/></composite><composite name="D"><type name="a" primitiveType="uint8" offset="1"/></composite>`,
		composite(1, "C", 14), changed(composite(2, "x", 6), at(1)), simple(3, "a", api.Uint8, 1, at(4)), changed(composite(3, "y", 1), at(5)), simple(4, "a", api.Uint8, 1),
		changed(composite(2, "z", 1), at(7)), simple(3, "b", api.Uint8, 1), simple(2, "d", api.Uint32, 1, at(10)),
		composite(1, "D", 2), simple(2, "a", api.Uint8, 1, at(1)))
	// Variable data has an offset, though it takes no bytes.
	saysNodes(t, `<composite name="C"><type name="a" primitiveType="uint8"/><type name="v" primitiveType="char" length="0"/></composite>`, composite(1, "C", 1), simple(2, "a", api.Uint8, 1), simple(2, "v", api.Char, 0, at(1)))
	saysNodes(t, `<composite name="C"><type name="a" primitiveType="uint8"/><type name="v" primitiveType="char" length="0" offset="7"/></composite>`, composite(1, "C", 7), simple(2, "a", api.Uint8, 1), simple(2, "v", api.Char, 0, at(7)))
	saysNodes(t, `<composite name="C"><type name="v" primitiveType="int64" length="0" offset="65535"/></composite>`, composite(1, "C", 65535), simple(2, "v", api.Int64, 0, at(65535)))
	saysNodes(t, `<composite name="C"><type name="a" primitiveType="uint8" offset="65534"/></composite>`, composite(1, "C", 65535), simple(2, "a", api.Uint8, 1, at(65534)))
	// A member may have a primitive type's name, or that of a type.
	saysNodes(t, `<composite name="C"><type name="uint8" primitiveType="int8"/><type name="C" primitiveType="int8"/></composite>`, composite(1, "C", 2), simple(2, "uint8", api.Int8, 1), simple(2, "C", api.Int8, 1, at(1)))
}

// P10.1: what refs named is said where it was put in.
func TestRefsPutIn(t *testing.T) {
	s := load(t, whole(header+`<composite name="P"><ref name="a" type="Dec"/><ref name="b" type="Dec" offset="9"/><ref name="c" type="E"/><ref name="d" type="int16"/></composite><composite name="Dec"><type name="m" primitiveType="int32" offset="0"/><type name="f" primitiveType="uint8" offset="6"/></composite><enum name="E" encodingType="Coder"><validValue name="x">01</validValue></enum><type name="Coder" primitiveType="uint8" nullValue="0x10"/>`, ""))
	dec := `<type name="m" primitiveType="int32"/><type name="f" primitiveType="uint8" offset="6"/></composite>`
	says(t, s, whole(header+`<composite name="P"><composite name="a">`+dec+`<composite name="b" offset="9">`+dec+`<enum name="c" encodingType="Coder"><validValue name="x">1</validValue></enum><type name="d" primitiveType="int16"/></composite><composite name="Dec">`+dec+`<enum name="E" encodingType="Coder"><validValue name="x">1</validValue></enum><type name="Coder" primitiveType="uint8" nullValue="16"/>`, ""))
}

// P10.1: messages, and what all parts have.
func TestMessages(t *testing.T) {
	says(t, load(t, whole(header, "")), whole(header, ""))
	for _, m := range []string{
		`<message name="M" id="0"/>`,
		`<message name="M" id="65534"/><message name="N" id="0"/><message name="A" id="3"/>`,
		`<message name="M" id="1" sinceVersion="1"/><message name="N" id="2"/>`,
		`<message name="M" id="1" deprecated="0"/><message name="N" id="2" deprecated="65534"/>`,
		`<message name="M" id="1" blockLength="9" sinceVersion="1" deprecated="1"/>`,
		`<message name="M" id="1" blockLength="65534"/>`,
		`<message name="M" id="1" blockLength="6"><field name="a" id="1" type="uint8"/><field name="b" id="2" type="int32"/></message>`,
	} {
		says(t, load(t, whole(chapter, m)), whole(chapter, m))
	}
	says(t, load(t, whole(header, `<message blockLength="0" id="01" name="M"/>`)), whole(header, `<message name="M" id="1"/>`))
	says(t, load(t, whole(chapter, `<message name="M" id="1" blockLength="4"><field name="k" id="9" type="Two"/><field name="a" id="1" type="int32"/></message>`)), inM("", `<field name="k" id="9" type="Two"/><field name="a" id="1" type="int32"/>`))
	says(t, load(t, whole(chapter, `<message name="M" id="1" blockLength="4"><field name="k" id="9" type="Two"/></message>`)), whole(chapter, `<message name="M" id="1" blockLength="4"><field name="k" id="9" type="Two"/></message>`))
}

// P10.1: fields: presence, values, offsets.
func TestFields(t *testing.T) {
	more := `<type name="Maybe" primitiveType="uint8" presence="optional"/><type name="AB" primitiveType="char" length="3" presence="constant">AB</type><set name="Flags" encodingType="uint8"><choice name="a">0</choice></set><composite name="Dec"><type name="m" primitiveType="int32"/></composite><composite name="Still"><type name="e" primitiveType="int8" presence="constant">-2</type></composite>`
	same := func(fields string) {
		t.Helper()
		says(t, load(t, inM(more, fields)), inM(more, fields))
	}
	turned := func(fields, want string) {
		t.Helper()
		says(t, load(t, inM(more, fields)), inM(more, want))
	}
	for _, name := range []string{"uint8", "double", "Side", "Flags", "Dec", "Still", "messageHeader"} {
		f := `<field name="f" id="1" type="` + name + `"`
		same(f + `/>`)
		same(f + ` presence="optional"/>`)
		same(f + ` presence="optional" sinceVersion="1"/>`)
		same(f + ` deprecated="1"/>`)
		turned(f+` presence="required"/>`, f+`/>`)
	}
	// A type that is optional by itself.
	f := `<field name="f" id="1" type="Maybe"`
	same(f + `/>`)
	same(f + ` presence="required"/>`)
	same(f + ` sinceVersion="1"/>`)
	turned(f+` presence="optional"/>`, f+`/>`)
	// Constant types.
	for _, name := range []string{"Two", "AB"} {
		f := `<field name="f" id="1" type="` + name + `"`
		same(f + `/>`)
		same(f + ` sinceVersion="1"/>`)
		turned(f+` presence="constant" offset="5"/>`, f+`/>`)
	}
	// Constants by a value.
	f = `<field name="f" id="1" type="Side"`
	same(f + ` presence="constant" valueRef="Side.Buy"/>`)
	same(f + ` presence="constant" valueRef="Side.Buy" sinceVersion="1"/>`)
	same(f + ` presence="constant" valueRef="Side.Sell" sinceVersion="1" deprecated="3"/>`)
	turned(f+` presence="constant" valueRef="Side.Buy" offset="5"/>`, f+` presence="constant" valueRef="Side.Buy"/>`)
	// Offsets: of fields that take bytes alone.
	same(`<field name="k" id="1" type="Two"/><field name="a" id="2" type="uint8" offset="1"/><field name="j" id="3" type="Still"/><field name="b" id="4" type="uint8"/><field name="c" id="5" type="Dec" offset="9"/>`)
	turned(`<field name="k" id="1" type="Still" offset="7"/><field name="a" id="2" type="uint8" offset="0"/><field name="j" id="3" type="Two" offset="7"/><field name="b" id="4" type="uint8" offset="1"/>`,
		`<field name="k" id="1" type="Still"/><field name="a" id="2" type="uint8"/><field name="j" id="3" type="Two"/><field name="b" id="4" type="uint8"/>`)
	same(`<field name="a" id="2" type="uint8" offset="65533"/>`)
}

// P10.1: a constant field names the value that is its word, wherever it stands in the enum, and whatever the others' Since.
func TestWhichValue(t *testing.T) {
	e := `<enum name="E" encodingType="int8"><validValue name="a" sinceVersion="1">0</validValue><validValue name="b">-1</validValue><validValue name="c" sinceVersion="1">5</validValue><validValue name="d">7</validValue></enum>`
	for _, value := range []string{"a", "b", "c", "d"} {
		says(t, load(t, inM(e, `<field name="f" id="1" type="E" presence="constant" valueRef="E.`+value+`" sinceVersion="1"/>`)), inM(e, `<field name="f" id="1" type="E" presence="constant" valueRef="E.`+value+`" sinceVersion="1"/>`))
	}
	all := `<field name="f" id="1" type="E" presence="constant" valueRef="E.d"/><field name="g" id="2" type="Side" presence="constant" valueRef="Side.Buy"/><field name="h" id="3" type="E" presence="constant" valueRef="E.b"/><field name="i" id="4" type="E" presence="constant" valueRef="E.a" sinceVersion="1"/>`
	says(t, load(t, inM(e, all)), inM(e, all))
}

// P10.1: groups and data.
func TestGroupsAndData(t *testing.T) {
	more := `<composite name="wideDim"><type name="numInGroup" primitiveType="uint8"/><type name="blockLength" primitiveType="uint32" offset="4"/></composite><composite name="wideText"><type name="length" primitiveType="uint32"/><type name="varData" primitiveType="uint8" length="0"/></composite>`
	for _, parts := range []string{
		`<group name="g" id="1"/>`,
		`<group name="g" id="1" dimensionType="wideDim"/>`,
		`<group name="g" id="1" blockLength="3"/>`,
		`<group name="g" id="1" dimensionType="wideDim" blockLength="65535" sinceVersion="1" deprecated="1"/>`,
		`<data name="d" id="1" type="text"/>`,
		`<data name="d" id="1" type="wideText" sinceVersion="1" deprecated="0"/>`,
		`<group name="g" id="1"><field name="a" id="2" type="uint8" offset="3"/><field name="b" id="3" type="uint8"/><group name="h" id="4" dimensionType="wideDim" blockLength="9"><field name="a" id="5" type="uint64"/><data name="d" id="6" type="text"/></group><group name="i" id="7"><field name="a" id="8" type="uint16"/></group><data name="d" id="9" type="wideText"/></group>`,
		// The fields of a message, and those of its groups, are laid each by themselves.
		`<field name="a" id="1" type="uint32"/><field name="b" id="2" type="uint8" offset="6"/><group name="g" id="3"><field name="a" id="4" type="uint8"/><field name="b" id="5" type="uint8" offset="4"/></group><group name="h" id="6" blockLength="2"><field name="a" id="7" type="uint8"/></group><data name="d" id="8" type="text"/>`,
	} {
		says(t, load(t, inM(more, parts)), inM(more, parts))
	}
	parts := ""
	for i := 8; i >= 1; i-- {
		parts = fmt.Sprintf(`<group name="g" id="%d"><field name="a" id="%d" type="uint8" offset="%d"/>%s</group>`, i, 100+i, i, parts)
	}
	says(t, load(t, inM("", parts)), inM("", parts))
}
