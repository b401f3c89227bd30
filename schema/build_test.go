package schema_test

import (
	"fmt"
	"reflect"
	"slices"
	"strconv"
	"strings"
	"testing"

	"stencil/api"
	"stencil/decl"
	"stencil/schema"
	"stencil/types"
	"stencil/xmltree"
)

// The pieces of a text: the root's start tag, its types, the messages, the end.
const (
	rootTag = `<messageSchema package="p" id="7" version="1">`
	rootEnd = `</messageSchema>`

	fourTypes = `<type name="templateId" primitiveType="uint16"/><type name="schemaId" primitiveType="uint16"/><type name="version" primitiveType="uint16"/></composite>`
	header    = `<composite name="messageHeader"><type name="blockLength" primitiveType="uint16"/>` + fourTypes
	dimension = `<composite name="groupSizeEncoding"><type name="blockLength" primitiveType="uint16"/><type name="numInGroup" primitiveType="uint8"/></composite>`
	varText   = `<composite name="text"><type name="length" primitiveType="uint8"/><type name="varData" primitiveType="char" length="0"/></composite>`
	side      = `<enum name="Side" encodingType="uint8"><validValue name="Buy">1</validValue><validValue name="Sell" sinceVersion="1">2</validValue></enum>`
	two       = `<type name="Two" primitiveType="uint8" presence="constant">2</type>`
	chapter   = header + dimension + varText + side + two

	// What the chapter's examples don't have.
	further = `<type name="Maybe" primitiveType="uint8" presence="optional"/>` +
		`<type name="AB" primitiveType="char" presence="constant" length="3">AB</type>` +
		`<set name="Flags" encodingType="uint8"><choice name="a">0</choice><choice name="b" sinceVersion="1">1</choice></set>` +
		`<composite name="Dec"><type name="m" primitiveType="int32"/><type name="e" primitiveType="int8" presence="constant">-2</type></composite>` +
		`<composite name="Still"><type name="e" primitiveType="int8" presence="constant">-2</type></composite>` +
		`<type name="Long" primitiveType="char" length="65535"/>` +
		`<composite name="smallDim"><type name="blockLength" primitiveType="uint8"/><type name="numInGroup" primitiveType="uint32"/></composite>` +
		`<composite name="wideDim"><type name="numInGroup" primitiveType="uint8"/><type name="blockLength" primitiveType="uint32"/></composite>` +
		`<composite name="wideText"><type name="length" primitiveType="uint32"/><type name="varData" primitiveType="uint8" length="0"/></composite>` +
		`<composite name="loose"><type name="x" primitiveType="uint32"/><type name="y" primitiveType="uint16" length="0"/></composite>`
)

// Places of the types of allTypes, whose order they follow.
const (
	atHeader    = 11
	atDimension = 16
	atText      = 19
	atSide      = 22
	atTwo       = 23
	atMaybe     = 24
	atAB        = 25
	atFlags     = 26
	atDec       = 27
	atStill     = 30
	atLong      = 32
	atSmallDim  = 33
	atWideDim   = 36
	atWideText  = 39
	atLoose     = 42
)

const allTypes = "<types>" + chapter + further + "</types>"

// whole is a text with these messages.
func whole(messages string) string { return rootTag + allTypes + messages + rootEnd }

// inM is a text whose one message has the id 1 and these parts.
func inM(parts string) string { return whole(`<message name="M" id="1">` + parts + `</message>`) }

// field is the text of a field with nothing but what must be there, and more attributes.
func field(name string, id int, typ string, more ...string) string {
	return fmt.Sprintf(`<field name="%s" id="%d" type="%s" %s/>`, name, id, typ, strings.Join(more, " "))
}

func group(name string, id int, parts string, more ...string) string {
	return fmt.Sprintf(`<group name="%s" id="%d" %s>%s</group>`, name, id, strings.Join(more, " "), parts)
}

func data(name string, id int, typ string, more ...string) string {
	return fmt.Sprintf(`<data name="%s" id="%d" type="%s" %s/>`, name, id, typ, strings.Join(more, " "))
}

func message(name string, id int, parts string, more ...string) string {
	return fmt.Sprintf(`<message name="%s" id="%d" %s>%s</message>`, name, id, strings.Join(more, " "), parts)
}

func since(n int) string { return `sinceVersion="` + strconv.Itoa(n) + `"` }

func offset(n int) string { return `offset="` + strconv.Itoa(n) + `"` }

func block(n int) string { return `blockLength="` + strconv.Itoa(n) + `"` }

const (
	optional = `presence="optional"`
	required = `presence="required"`
	constant = `presence="constant"`
)

func ref(s string) string { return `valueRef="` + s + `"` }

func dim(s string) string { return `dimensionType="` + s + `"` }

// declarations is those of a text.
func declarations(t testing.TB, s string) []api.Decl {
	t.Helper()
	es, e, at := xmltree.Parse(s)
	if e != api.OK {
		t.Fatalf("%.3000s: error %d at %d", s, e, at)
	}
	ds, e, at := decl.Read(es)
	if e != api.OK {
		t.Fatalf("%.3000s: declarations: error %d at %d", s, e, at)
	}
	return ds
}

// levelled is a schema whose empty lists are nil.
func levelled(s api.Schema) api.Schema {
	s.Types, s.Parts = slices.Clone(s.Types), slices.Clone(s.Parts)
	for i := range s.Types {
		n := &s.Types[i]
		if len(n.Const) == 0 {
			n.Const = nil
		}
		if len(n.Values) == 0 {
			n.Values = nil
		}
	}
	for i := range s.Parts {
		if len(s.Parts[i].Const) == 0 {
			s.Parts[i].Const = nil
		}
	}
	if len(s.Types) == 0 {
		s.Types = nil
	}
	if len(s.Parts) == 0 {
		s.Parts = nil
	}
	return s
}

func alike(s, t api.Schema) bool { return reflect.DeepEqual(levelled(s), levelled(t)) }

// holdLoad holds Load, Build and the second Build to an answer.
func holdLoad(t *testing.T, s string, want api.Schema, err api.Errno, at int) {
	t.Helper()
	hold := func(who string, got api.Schema, e api.Errno, a int) {
		t.Helper()
		if e != err || a != at || !alike(got, want) {
			t.Errorf("%s(%s): %v, %d, %d; want %v, %d, %d", who, strings.Replace(s, allTypes, "..", 1), got.Parts, e, a, want.Parts, err, at)
		}
	}
	got, e, a := schema.Load(s)
	hold("Load", got, e, a)
	ds := declarations(t, s)
	got, e, a = schema.Build(ds)
	hold("Build", got, e, a)
	got, e, a = secondBuild(ds)
	hold("the test's own Build", got, e, a)
	if e == api.OK {
		if e, n := schema.Valid(want); e != api.OK || n != 0 {
			t.Errorf("P9.4: Valid of what %s says: %d, %d", s, e, n)
		}
	}
}

// refused holds that a text is refused at the element that stands behind the mark ^.
func refused(t *testing.T, s string, err api.Errno) {
	t.Helper()
	before, after, found := strings.Cut(s, "^")
	if !found {
		t.Fatalf("%s has no mark", s)
	}
	holdLoad(t, before+after, api.Schema{}, err, len(before))
}

// taken holds that a text isn't refused, and that all calls say the same of it.
func taken(t *testing.T, s string) api.Schema {
	t.Helper()
	want, e, at := secondBuild(declarations(t, s))
	if e != api.OK {
		t.Errorf("the test's own Build(%s): %d, %d", strings.Replace(s, allTypes, "..", 1), e, at)
	}
	holdLoad(t, s, want, api.OK, 0)
	return want
}

// says holds that a text has just these parts.
func says(t *testing.T, s string, want ...api.Part) {
	t.Helper()
	ds := declarations(t, s)
	ts, _, _ := types.Resolve(ds)
	holdLoad(t, s, api.Schema{Package: "p", ID: 7, Version: 1, Header: atHeader, Types: ts, Parts: want}, api.OK, 0)
}

func mPart(blockLength int) api.Part {
	return api.Part{Depth: 1, Kind: api.PartMessage, Name: "M", ID: 1, Block: blockLength, Deprecated: -1}
}

// fPart is a required field's part.
func fPart(depth int, name string, id, typ, at, size int) api.Part {
	return api.Part{Depth: depth, Kind: api.PartField, Name: name, ID: id, Type: typ, Offset: at, Size: size, Deprecated: -1}
}

func with(p api.Part, change func(p *api.Part)) api.Part {
	change(&p)
	return p
}

func optionalSince(n int) func(p *api.Part) {
	return func(p *api.Part) { p.Presence, p.Since = api.Optional, n }
}

func constantOf(words ...uint64) func(p *api.Part) {
	return func(p *api.Part) { p.Presence, p.Const = api.Constant, words }
}

// P9.1: the names of the types' places are those that the tests go by.
func TestPlacesOfTypes(t *testing.T) {
	s := taken(t, whole(""))
	for place, name := range map[int]string{atHeader: "messageHeader", atDimension: "groupSizeEncoding", atText: "text", atSide: "Side", atTwo: "Two", atMaybe: "Maybe", atAB: "AB", atFlags: "Flags", atDec: "Dec", atStill: "Still", atLong: "Long", atSmallDim: "smallDim", atWideDim: "wideDim", atWideText: "wideText", atLoose: "loose"} {
		if n := s.Types[place]; n.Name != name || n.Depth != 1 {
			t.Errorf("%s stands elsewhere than at %d: %v", name, place, n)
		}
	}
}

// P9.1: the chapter's first example, offsets and blocks.
func TestExampleBlocks(t *testing.T) {
	abc := func(head, b string) string {
		return whole(head + field("a", 2, "uint8") + field("b", 3, "int32", b) + field("c", 4, "uint8", optional, since(1)) + "</message>")
	}
	m, m5, m10 := `<message name="M" id="1">`, `<message name="M" id="1" blockLength="5">`, `<message name="M" id="1" blockLength="10">`
	rows := func(blockLength, b, c int) []api.Part {
		return []api.Part{mPart(blockLength), fPart(2, "a", 2, 5, 0, 1), fPart(2, "b", 3, 3, b, 4), with(fPart(2, "c", 4, 5, c, 1), optionalSince(1))}
	}
	says(t, abc(m, ""), rows(6, 1, 5)...)
	says(t, abc(m, offset(4)), rows(9, 4, 8)...)
	says(t, abc(m10, ""), rows(10, 1, 5)...)
	refused(t, whole(m+field("a", 2, "uint8")+"^"+field("b", 3, "int32", offset(0))+field("c", 4, "uint8", optional, since(1))+"</message>"), api.ErrLayOver)
	refused(t, strings.Replace(abc(m5, ""), m5, "^"+m5, 1), api.ErrLayBlock)
}

// P9.1: the chapter's second example, constants.
func TestExampleConstants(t *testing.T) {
	says(t, inM(field("a", 2, "Two")), mPart(0), with(fPart(2, "a", 2, atTwo, 0, 0), constantOf(2)))
	refused(t, inM("^"+field("a", 2, "Two", optional)), api.ErrTypeValue)
	says(t, inM(field("a", 2, "Side", constant, ref("Side.Buy"))), mPart(0), with(fPart(2, "a", 2, atSide, 0, 0), constantOf(1)))
	for _, more := range []string{ref("Side.Sell"), ref("Other.Buy"), ""} {
		refused(t, inM("^"+field("a", 2, "Side", constant, more)), api.ErrTypeValue)
	}
}

// P9.1: the chapter's third example, ids, names and order.
func TestExampleNames(t *testing.T) {
	refused(t, inM(field("a", 3, "uint8")+"^"+field("b", 3, "uint8")), api.ErrIDTwice)
	says(t, inM(field("a", 1, "uint8")), mPart(1), fPart(2, "a", 1, 5, 0, 1))
	says(t, inM(field("a", 1, "uint8")+group("g", 2, group("a", 3, ""))), mPart(1), fPart(2, "a", 1, 5, 0, 1),
		api.Part{Depth: 2, Kind: api.PartGroup, Name: "g", ID: 2, Type: atDimension, Deprecated: -1},
		api.Part{Depth: 3, Kind: api.PartGroup, Name: "a", ID: 3, Type: atDimension, Deprecated: -1})
	refused(t, inM(group("g", 2, "")+"^"+field("a", 3, "uint8")), api.ErrPartOrder)
}

// P9.1: the chapter's fourth example, versions.
func TestExampleVersions(t *testing.T) {
	refused(t, inM("^"+field("a", 3, "uint8", since(1))), api.ErrNotOptional)
	refused(t, inM("^"+field("a", 3, "uint8", since(2))), api.ErrSince)
	refused(t, inM("^"+field("a", 3, "uint8", since(2), optional)), api.ErrSince)
	refused(t, inM(group("g", 2, "", since(1))+"^"+data("d", 3, "text")), api.ErrSince)
	refused(t, inM(group("g", 2, "^"+data("d", 3, "text"), since(1))), api.ErrSince)
}

// P9.1: the chapter's fifth and sixth examples, types, headers and nests.
func TestExampleTypes(t *testing.T) {
	refused(t, inM("^"+field("a", 2, "text")), api.ErrTypeKind)
	refused(t, inM("^"+data("a", 2, "uint8")), api.ErrLengthType)
	refused(t, inM("^"+group("a", 2, "", dim("text"))), api.ErrDimension)
	refused(t, inM("^"+field("a", 2, "nothing")), api.ErrTypeNone)
	small := strings.Replace(whole("^"+message("M", 1, "", block(255))), `"blockLength" primitiveType="uint16"`, `"blockLength" primitiveType="uint8"`, 1)
	refused(t, small, api.ErrHeader)
	refused(t, whole("^"+message("M", 65535, "")), api.ErrHeader)
	refused(t, inM(nested(8, "^"+nested(1, ""))), api.ErrNest)
}

// nested is groups in one another; those of two calls, of unlike numbers, have unlike ids.
func nested(n int, inner string) string {
	text := inner
	for i := n; i > 0; i-- {
		text = group("g", 100*n+i, text)
	}
	return text
}

// P9.1: all that a schema has is told, of every kind of part.
func TestLoadTellsAll(t *testing.T) {
	s := `<?xml version="1.0"?><sbe:messageSchema xmlns:sbe="x" package="p.q.r" id="65534" version="65534" byteOrder="bigEndian" headerType="small" description="d">` +
		`<types><composite name="small"><type name="version" primitiveType="uint16"/><type name="schemaId" primitiveType="uint16"/><type name="templateId" primitiveType="uint32" offset="6"/><type name="blockLength" primitiveType="uint8"/></composite></types>` +
		`<types>` + dimension + varText + side + two + further + `</types>` +
		message("M", 65535, field("f", 1, "Dec", optional, `deprecated="65534"`, since(9), offset(3))+field("k", 65535, "AB", since(9))+field("z", 0, "Still", offset(8), since(10), optional)+
			group("g", 5, field("x", 6, "Side", `deprecated="0"`, since(12))+group("h", 7, data("e", 8, "text", since(12)), since(12), dim("smallDim"), block(254), `deprecated="13"`)+data("d", 9, "wideText", since(12), `deprecated="3"`), since(12), dim("wideDim"))+
			data("d", 10, "text", since(12)), since(8), `deprecated="12"`, block(254), `description="m"`) +
		`<message name="N" id="0"/></sbe:messageSchema>`
	es, _, _ := xmltree.Parse(s)
	ds, _, _ := decl.Read(es)
	ts, _, _ := types.Resolve(ds)
	find := func(name string) int { return types.Find(ts, name) }
	want := api.Schema{Package: "p.q.r", ID: 65534, Version: 65534, Order: api.Big, Header: 11, Types: ts, Parts: []api.Part{
		{Depth: 1, Name: "M", ID: 65535, Block: 254, Since: 8, Deprecated: 12},
		{Depth: 2, Kind: api.PartField, Name: "f", ID: 1, Type: find("Dec"), Presence: api.Optional, Offset: 3, Size: 4, Since: 9, Deprecated: 65534},
		{Depth: 2, Kind: api.PartField, Name: "k", ID: 65535, Type: find("AB"), Presence: api.Constant, Since: 9, Deprecated: -1, Const: []uint64{'A', 'B', 0}},
		{Depth: 2, Kind: api.PartField, Name: "z", ID: 0, Type: find("Still"), Presence: api.Optional, Since: 10, Deprecated: -1},
		{Depth: 2, Kind: api.PartGroup, Name: "g", ID: 5, Type: find("wideDim"), Block: 1, Since: 12, Deprecated: -1},
		{Depth: 3, Kind: api.PartField, Name: "x", ID: 6, Type: find("Side"), Size: 1, Since: 12, Deprecated: 0},
		{Depth: 3, Kind: api.PartGroup, Name: "h", ID: 7, Type: find("smallDim"), Block: 254, Since: 12, Deprecated: 13},
		{Depth: 4, Kind: api.PartData, Name: "e", ID: 8, Type: find("text"), Since: 12, Deprecated: -1},
		{Depth: 3, Kind: api.PartData, Name: "d", ID: 9, Type: find("wideText"), Since: 12, Deprecated: 3},
		{Depth: 2, Kind: api.PartData, Name: "d", ID: 10, Type: find("text"), Since: 12, Deprecated: -1},
		{Depth: 1, Name: "N", ID: 0, Deprecated: -1},
	}}
	holdLoad(t, s, want, api.OK, 0)
}

// P9.1: a field's presence, written and unwritten, by its type's kind.
func TestPresence(t *testing.T) {
	rows := []struct {
		typ         string
		place, size int
		unwritten   api.Presence
	}{
		{"uint8", 5, 1, api.Required},
		{"Maybe", atMaybe, 1, api.Optional},
		{"Side", atSide, 1, api.Required},
		{"Flags", atFlags, 1, api.Required},
		{"Dec", atDec, 4, api.Required},
		{"Still", atStill, 0, api.Required},
		{"messageHeader", atHeader, 8, api.Required},
	}
	for _, r := range rows {
		for _, p := range []struct {
			written string
			want    api.Presence
		}{{"", r.unwritten}, {required, api.Required}, {optional, api.Optional}} {
			want := with(fPart(2, "a", 2, r.place, 0, r.size), func(f *api.Part) { f.Presence = p.want })
			says(t, inM(field("a", 2, r.typ, p.written)), mPart(r.size), want)
		}
		refused(t, inM("^"+field("a", 2, r.typ, constant)), api.ErrTypeValue)
	}
	for _, written := range []string{"", constant} {
		says(t, inM(field("a", 2, "AB", written)), mPart(0), with(fPart(2, "a", 2, atAB, 0, 0), constantOf('A', 'B', 0)))
		refused(t, inM("^"+field("a", 2, "AB", written, ref("AB.Buy"))), api.ErrTypeValue)
	}
	refused(t, inM("^"+field("a", 2, "AB", required)), api.ErrTypeValue)
	refused(t, inM("^"+field("a", 2, "AB", optional)), api.ErrTypeValue)
}

// P9.1: valueRef, and the Since of the value that it names.
func TestValueRef(t *testing.T) {
	bad := func(typ string, more ...string) {
		t.Helper()
		refused(t, inM("^"+field("a", 2, typ, more...)), api.ErrTypeValue)
	}
	says(t, inM(field("a", 2, "Side", constant, ref("Side.Sell"), since(1))), mPart(0), with(fPart(2, "a", 2, atSide, 0, 0), func(p *api.Part) {
		p.Presence, p.Const, p.Since = api.Constant, []uint64{2}, 1
	}))
	says(t, inM(field("a", 2, "Side", constant, ref("Side.Buy"), since(1))), mPart(0), with(fPart(2, "a", 2, atSide, 0, 0), func(p *api.Part) {
		p.Presence, p.Const, p.Since = api.Constant, []uint64{1}, 1
	}))
	bad("Side", constant, ref("Side.Hold"))
	bad("Side", constant, ref("Side.buy"))
	bad("Side", constant, ref("Buy.Side"))
	bad("Side", constant, ref("side.Buy"))
	bad("Side", ref("Side.Buy"))
	bad("Side", required, ref("Side.Buy"))
	bad("Side", optional, ref("Side.Buy"))
	bad("Side", optional, ref("Side.Hold"))
	bad("uint8", ref("Side.Buy"))
	bad("uint8", constant, ref("Side.Buy"))
	bad("uint8", constant, ref("uint8.Buy"))
	bad("Flags", constant, ref("Flags.a"))
	bad("Dec", constant, ref("Dec.m"))
	bad("Dec", ref("Dec.m"))
	bad("Still", constant, ref("Still.e"))
	bad("Two", ref("Side.Buy"))
	bad("Two", constant, ref("Side.Buy"))
	// Another enum with a value of that name, and one that an enum in a composite has.
	s := strings.Replace(inM(field("a", 2, "Other", constant, ref("Other.Buy"))), "<types>", `<types><enum name="Other" encodingType="int16"><validValue name="Sell">2</validValue><validValue name="Buy">-5</validValue></enum>`, 1)
	got := taken(t, s)
	if p := got.Parts[1]; len(p.Const) != 1 || p.Const[0] != ^uint64(4) {
		t.Errorf("Other.Buy: %v", p)
	}
}

// P9.1: what Load answers of a text of which Parse or Read refuses something, ahead of all that is wrong behind.
func TestLoadPassesErrorsOn(t *testing.T) {
	for _, r := range []struct {
		s   string
		err api.Errno
	}{
		{"^", api.ErrTreeRoot},
		{rootTag + "^", api.ErrTreePair},
		{rootTag + "^</types>", api.ErrTreePair},
		{`<messageSchema package="p" ^package="p" id="1">`, api.ErrTreeTwice},
		{whole(field("a", 1, "x")) + "<^", api.ErrXMLEnd},
		{whole(field("a", 1, "x")) + "^<a/>", api.ErrTreeRoot},
		{whole("^" + field("a", 1, "x")), api.ErrDeclName},
		{whole(`<message ^name="1" id="1">` + field("a", 1, "x") + `</message>`), api.ErrDeclValue},
		{whole(`<message name="M" id="1" ^size="1"/>` + `<message name="M" id="1"/>`), api.ErrDeclAttr},
		{whole(`^<message name="M"/>`), api.ErrDeclMiss},
		{whole(`^<message name="M" id="1">x</message>`), api.ErrDeclText},
		{whole(message("M", 1, "") + message("M", 1, "") + `<message name="M" id="1" ^since="1"/>`), api.ErrDeclAttr},
	} {
		before, after, _ := strings.Cut(r.s, "^")
		text := before + after
		es, e, at := xmltree.Parse(text)
		if e == api.OK {
			_, e, at = decl.Read(es)
		}
		got, ge, gat := schema.Load(text)
		if ge != e || gat != at || !alike(got, api.Schema{}) {
			t.Errorf("Load(%s): %v, %d, %d; Parse and Read say %d, %d", text, got, ge, gat, e, at)
		}
		if ge != r.err || gat != len(before) {
			t.Errorf("Load(%s): %d, %d; want %d, %d", text, ge, gat, r.err, len(before))
		}
	}
	// A text with a character that XML doesn't have, and one that is too long.
	if _, e, at := schema.Load(strings.Repeat(" ", api.MaxInput) + " "); e != api.ErrXMLSize || at != api.MaxInput {
		t.Errorf("too long a text: %d, %d", e, at)
	}
	if _, e, at := schema.Load(rootTag + "\x01"); e != api.ErrXMLChar || at != len(rootTag) {
		t.Errorf("a character that is none: %d, %d", e, at)
	}
}

// P9.1: what is no declarations, and the types' errors, ahead of all else.
func TestBuildPassesErrorsOn(t *testing.T) {
	ds := declarations(t, whole(message("M", 1, "")))
	changed := func(change func(ds []api.Decl) []api.Decl) []api.Decl { return change(slices.Clone(ds)) }
	for what, ds := range map[string][]api.Decl{
		"nothing":         nil,
		"no root":         ds[1:],
		"a Depth":         changed(func(ds []api.Decl) []api.Decl { ds[3].Depth = 9; return ds }),
		"a Length":        changed(func(ds []api.Decl) []api.Decl { ds[0].Length = 3; return ds }),
		"an Order":        changed(func(ds []api.Decl) []api.Decl { ds[0].Order = 2; return ds }),
		"a Kind":          changed(func(ds []api.Decl) []api.Decl { ds[len(ds)-1].Kind = 13; return ds }),
		"an id":           changed(func(ds []api.Decl) []api.Decl { ds[len(ds)-1].ID = 65536; return ds }),
		"a message twice": changed(func(ds []api.Decl) []api.Decl { m := ds[len(ds)-1]; m.Kind = -1; return append(ds, m, m) }),
	} {
		got, e, at := schema.Build(ds)
		if e != api.ErrDeclMade || at != 0 || !alike(got, api.Schema{}) {
			t.Errorf("%s: %v, %d, %d", what, got, e, at)
		}
	}
	broken := `<message name="M" id="65535" sinceVersion="9">` + field("a", 1, "nothing") + field("a", 1, "nothing") + "</message>"
	in := func(ts string) string {
		return `<messageSchema package="p" id="65535" headerType="nothing">` + "<types>" + chapter + ts + "</types>" + broken + rootEnd
	}
	refused(t, in(`^<type name="uint8" primitiveType="char"/>`), api.ErrTypeName)
	refused(t, in(`^<type name="Two" primitiveType="char"/>`), api.ErrTypeTwice)
	refused(t, in(`^<type name="A" primitiveType="Two"/>`), api.ErrTypeNone)
	refused(t, in(`^<composite name="A"><ref name="a" type="A"/></composite>`), api.ErrTypeCycle)
	refused(t, in(`^<enum name="A" encodingType="float"/>`), api.ErrTypeKind)
	refused(t, in(`^<type name="A" primitiveType="uint8" nullValue="x"/>`), api.ErrTypeValue)
	refused(t, in(`<composite name="A"><type name="a" primitiveType="uint8"/>^<type name="b" primitiveType="uint8" offset="0"/></composite>`), api.ErrTypeOffset)
	refused(t, in(`<set name="A" encodingType="uint8">^<choice name="a">8</choice></set>`), api.ErrTypeEnum)
	refused(t, in(`^<type name="A" primitiveType="uint16" length="40000"/>`), api.ErrTypeLength)
}

// headOf is a header of these types, and dimOf a dimension.
func headOf(name, blockLength, template, id, version string) string {
	return fmt.Sprintf(`<composite name="%s"><type name="blockLength" primitiveType="%s"/><type name="templateId" primitiveType="%s"/><type name="schemaId" primitiveType="%s"/><type name="version" primitiveType="%s"/></composite>`, name, blockLength, template, id, version)
}

func dimOf(name, blockLength, count string) string {
	return fmt.Sprintf(`<composite name="%s"><type name="blockLength" primitiveType="%s"/><type name="numInGroup" primitiveType="%s"/></composite>`, name, blockLength, count)
}

// withTop is a text with these attributes of the root, types and messages.
func withTop(top, ts, messages string) string {
	return `<messageSchema package="p" ` + top + `>` + `<types>` + ts + `</types>` + messages + rootEnd
}

// P9.1: the schema's own errors: no header's type, none that is one, and the greatest numbers that it tells.
func TestSchemasHeader(t *testing.T) {
	refused(t, `^<messageSchema package="p" id="1"/>`, api.ErrTypeNone)
	refused(t, `^`+withTop(`id="1"`, dimension, ""), api.ErrTypeNone)
	refused(t, `^`+withTop(`id="1" headerType="blockLength"`, chapter, ""), api.ErrTypeNone)
	refused(t, `^`+withTop(`id="1" headerType="MessageHeader"`, chapter, ""), api.ErrTypeNone)
	for _, name := range []string{"char", "uint8", "uint16", "text", "groupSizeEncoding", "Side", "Two"} {
		refused(t, `^`+withTop(`id="1" headerType="`+name+`"`, chapter, ""), api.ErrHeader)
	}
	refused(t, `^`+withTop(`id="1"`, strings.Replace(header, `"version" primitiveType="uint16"`, `"version" primitiveType="int16"`, 1), ""), api.ErrHeader)
	refused(t, `^`+withTop(`id="1"`, strings.Replace(header, `"version" primitiveType="uint16"`, `"version" primitiveType="uint16" presence="optional"`, 1), ""), api.ErrHeader)
	rows := []struct {
		prim string
		most int
	}{{"uint8", 254}, {"uint16", 65534}, {"uint32", 65535}}
	for _, r := range rows {
		for _, n := range []int{0, 1, 253, 254, 255, 256, 65533, 65534, 65535} {
			id := withTop(fmt.Sprintf(`id="%d"`, n), headOf("messageHeader", "uint16", "uint16", r.prim, "uint16"), "")
			if n <= r.most {
				taken(t, id)
			} else {
				refused(t, "^"+id, api.ErrHeader)
			}
			if n > 65534 {
				continue
			}
			version := withTop(fmt.Sprintf(`id="0" version="%d"`, n), headOf("messageHeader", "uint16", "uint16", "uint16", r.prim), "")
			if n <= r.most {
				taken(t, version)
			} else {
				refused(t, "^"+version, api.ErrHeader)
			}
		}
	}
	// A written maximum isn't looked at.
	taken(t, withTop(`id="254"`, strings.Replace(headOf("messageHeader", "uint8", "uint8", "uint8", "uint8"), `name="schemaId"`, `name="schemaId" maxValue="3" nullValue="4"`, 1), ""))
	refused(t, "^"+withTop(`id="255"`, strings.Replace(headOf("messageHeader", "uint8", "uint8", "uint8", "uint8"), `name="schemaId"`, `name="schemaId" maxValue="255" nullValue="4"`, 1), ""), api.ErrHeader)
	// The header may be declared behind, and is found by its name.
	s := taken(t, withTop(`id="1" headerType="B"`, headOf("A", "uint8", "uint8", "uint8", "uint8")+headOf("B", "uint16", "uint16", "uint16", "uint16"), ""))
	if s.Header != 16 {
		t.Errorf("the header's place: %d", s.Header)
	}
}

// P9.1: the Since of values and bits, also of those in composites.
func TestSinceOfValues(t *testing.T) {
	value := func(n int) string { return fmt.Sprintf(`<validValue name="v" sinceVersion="%d">1</validValue>`, n) }
	choice := func(n int) string { return fmt.Sprintf(`<choice name="v" sinceVersion="%d">1</choice>`, n) }
	enum := func(s string) string { return `<enum name="E" encodingType="uint8">` + s + `</enum>` }
	set := func(s string) string { return `<set name="S" encodingType="uint8">` + s + `</set>` }
	in := func(s string) string { return `<composite name="C">` + s + `</composite>` }
	deep := func(s string) string {
		return `<composite name="D"><composite name="C">` + s + `</composite></composite>`
	}
	top := `id="1" version="3"`
	for _, wrap := range []func(string) string{func(s string) string { return s }, in, deep} {
		taken(t, withTop(top, header+wrap(enum(value(3))), ""))
		taken(t, withTop(top, header+wrap(set(choice(3))), ""))
		refused(t, withTop(top, header+wrap(enum("^"+value(4))), ""), api.ErrSince)
		refused(t, withTop(top, header+wrap(set("^"+choice(4))), ""), api.ErrSince)
	}
	refused(t, withTop(top, header+enum(`<validValue name="u">2</validValue>^`+value(65534)+`<validValue name="w" sinceVersion="5">3</validValue>`), ""), api.ErrSince)
	refused(t, withTop(top, header+set("^"+choice(4))+enum(value(4)), ""), api.ErrSince)
	// Ahead of it comes the header, behind it all parts.
	refused(t, "^"+withTop(`id="65535"`, header+enum(value(1)), ""), api.ErrHeader)
	refused(t, "^"+withTop(`id="1" headerType="x"`, header+enum(value(1)), ""), api.ErrTypeNone)
	refused(t, withTop(`id="1"`, header+enum("^"+value(1)), message("M", 1, "")+message("M", 1, "")), api.ErrSince)
	refused(t, rootTag+message("M", 65535, field("a", 1, "nothing"))+"<types>"+header+enum("^"+value(2))+"</types>"+rootEnd, api.ErrSince)
}

// P9.1: ids that stand twice: of messages, and of all parts of one message.
func TestIDs(t *testing.T) {
	a := field("a", 3, "uint8")
	refused(t, whole(message("M", 1, "")+message("N", 2, "")+"^"+message("O", 1, "")), api.ErrIDTwice)
	refused(t, whole(message("M", 0, "")+"^"+message("O", 0, "")), api.ErrIDTwice)
	taken(t, whole(message("M", 1, a)+message("N", 2, a)))
	taken(t, whole(message("M", 1, field("a", 1, "uint8"))+message("N", 2, field("a", 1, "uint8")+field("b", 2, "uint8"))))
	// A part's id isn't one of a message's.
	taken(t, whole(message("M", 1, a)+message("N", 3, "")))
	taken(t, whole(message("M", 1, group("g", 2, ""))+message("N", 2, "")))
	// In groups, beside groups, behind groups.
	refused(t, inM(a+group("g", 4, "^"+field("b", 3, "uint8"))), api.ErrIDTwice)
	refused(t, inM(a+"^"+group("g", 3, "")), api.ErrIDTwice)
	refused(t, inM(group("g", 4, "^"+field("b", 4, "uint8"))), api.ErrIDTwice)
	refused(t, inM(group("g", 4, field("b", 5, "uint8"))+group("h", 6, "^"+field("b", 5, "uint8"))), api.ErrIDTwice)
	refused(t, inM(group("g", 4, group("h", 5, field("b", 6, "uint8")))+"^"+data("d", 6, "text")), api.ErrIDTwice)
	refused(t, inM(data("d", 6, "text")+"^"+data("e", 6, "text")), api.ErrIDTwice)
	taken(t, inM(group("g", 4, field("b", 5, "uint8"))+group("h", 6, field("b", 7, "uint8"))))
}

// P9.1: names that stand twice: of messages, and right inside one message or group.
func TestNames(t *testing.T) {
	refused(t, whole(message("M", 1, "")+message("N", 2, "")+"^"+message("M", 3, "")), api.ErrNameTwice)
	taken(t, whole(message("M", 1, field("M", 1, "uint8"))+message("N", 2, field("M", 1, "uint8"))+message("m", 3, "")))
	refused(t, inM(field("a", 1, "uint8")+field("b", 2, "uint8")+"^"+field("a", 3, "uint8")), api.ErrNameTwice)
	refused(t, inM(field("a", 1, "uint8")+"^"+group("a", 3, "")), api.ErrNameTwice)
	refused(t, inM(field("a", 1, "uint8")+group("g", 3, field("d", 4, "uint8"))+"^"+data("a", 5, "text")), api.ErrNameTwice)
	refused(t, inM(group("g", 3, "")+"^"+data("g", 5, "text")), api.ErrNameTwice)
	refused(t, inM(group("g", 3, field("d", 4, "uint8")+"^"+field("d", 5, "uint8"))), api.ErrNameTwice)
	refused(t, inM(group("g", 3, group("h", 4, "")+data("d", 6, "text")+"^"+data("h", 5, "text"))), api.ErrNameTwice)
	taken(t, inM(field("a", 1, "uint8")+group("g", 2, field("a", 3, "uint8")+field("g", 4, "uint8")+group("h", 5, field("a", 6, "uint8")+data("g", 7, "text")))+group("h", 8, field("a", 9, "uint8"))))
	taken(t, inM(field("A", 1, "uint8")+field("a", 2, "uint8")))
	// A type's, and a member's.
	taken(t, inM(field("uint8", 1, "uint8")+field("Side", 2, "Side")+field("blockLength", 3, "uint8")))
}

// P9.1: fields, groups, data, in this order, in a message and in a group.
func TestOrder(t *testing.T) {
	f, g, d := field("f", 1, "uint8"), group("g", 2, ""), data("d", 3, "text")
	f2, g2, d2 := field("f2", 4, "uint8"), group("g2", 5, ""), data("d2", 6, "text")
	for _, wrap := range []func(string) string{inM, func(s string) string { return inM(group("x", 9, s)) }, func(s string) string { return inM(field("y", 8, "uint8") + group("x", 9, s) + data("z", 10, "text")) }} {
		taken(t, wrap(f+f2+g+g2+d+d2))
		taken(t, wrap(f+d))
		taken(t, wrap(g+d))
		refused(t, wrap(g+"^"+f), api.ErrPartOrder)
		refused(t, wrap(d+"^"+f), api.ErrPartOrder)
		refused(t, wrap(d+"^"+g), api.ErrPartOrder)
		refused(t, wrap(f+g+d+"^"+f2), api.ErrPartOrder)
		refused(t, wrap(f+g+"^"+f2+d), api.ErrPartOrder)
		refused(t, wrap(f+d+"^"+g), api.ErrPartOrder)
		refused(t, wrap(f+g+d+"^"+g2), api.ErrPartOrder)
	}
	// What stands in a group is no matter for what stands behind it, nor the message ahead.
	taken(t, inM(group("x", 9, f+g+d)+group("y", 10, f2+g2+d2)))
	taken(t, whole(message("M", 1, d)+message("N", 2, f)))
}

// P9.1: eight groups in one another, and nine.
func TestNest(t *testing.T) {
	taken(t, inM(nested(8, field("a", 1, "uint8"))))
	taken(t, inM(nested(7, data("a", 1, "text"))))
	taken(t, inM(nested(8, data("a", 1, "text"))+group("h", 5, nested(7, ""))))
	refused(t, inM(nested(8, "^"+group("h", 5, field("a", 1, "uint8")))), api.ErrNest)
	refused(t, inM(nested(8, field("a", 1, "uint8")+"^"+group("h", 5, group("i", 6, "")))), api.ErrNest)
	// Groups side by side are not in one another.
	side := ""
	for i := range 20 {
		side += group("g"+strconv.Itoa(i), 10+i, "")
	}
	taken(t, inM(side))
}

// P9.1: types that are none, or not such as a part wants.
func TestTypesOfParts(t *testing.T) {
	for _, typ := range []string{"nothing", "Uint8", "Buy", "m", "blockLength", "M", "a"} {
		refused(t, inM("^"+field("a", 1, typ)), api.ErrTypeNone)
		refused(t, inM("^"+group("a", 1, "", dim(typ))), api.ErrTypeNone)
		refused(t, inM("^"+data("a", 1, typ)), api.ErrTypeNone)
	}
	refused(t, withTop(`id="1"`, header, message("M", 1, "^"+group("g", 1, ""))), api.ErrTypeNone)
	for _, typ := range []string{"text", "wideText", "loose"} {
		refused(t, inM("^"+field("a", 1, typ)), api.ErrTypeKind)
		refused(t, inM("^"+field("a", 1, typ, optional, ref("a.b"))), api.ErrTypeKind)
	}
	for _, typ := range []string{"groupSizeEncoding", "smallDim", "wideDim"} {
		taken(t, inM(group("a", 1, "", dim(typ))))
		taken(t, inM(field("a", 1, typ)))
		refused(t, inM("^"+data("a", 1, typ)), api.ErrLengthType)
	}
	for _, typ := range []string{"text", "wideText"} {
		taken(t, inM(data("a", 1, typ)))
		refused(t, inM("^"+group("a", 1, "", dim(typ))), api.ErrDimension)
	}
	for _, typ := range []string{"uint8", "uint16", "char", "Two", "Side", "Flags", "Dec", "Still", "Long", "messageHeader", "loose", "Maybe"} {
		refused(t, inM("^"+group("a", 1, "", dim(typ))), api.ErrDimension)
		refused(t, inM("^"+data("a", 1, typ)), api.ErrLengthType)
	}
	// Near misses of a dimension and of data.
	for _, ts := range []string{
		dimOf("X", "uint16", "int8"), dimOf("X", "uint64", "uint8"), strings.Replace(dimOf("X", "uint16", "uint8"), "numInGroup", "numInGroups", 1),
		strings.Replace(dimOf("X", "uint16", "uint8"), "</composite>", `<type name="z" primitiveType="uint8"/></composite>`, 1),
		strings.Replace(varText, `"text"`, `"X"`, 1), strings.Replace(strings.Replace(varText, `"text"`, `"X"`, 1), `"char"`, `"int8"`, 1),
	} {
		refused(t, withTop(`id="1"`, header+ts, message("M", 1, "^"+group("g", 1, "", dim("X")))), api.ErrDimension)
	}
	refused(t, withTop(`id="1"`, header+strings.Replace(varText, `"char"`, `"int8"`, 1), message("M", 1, "^"+data("g", 1, "text"))), api.ErrLengthType)
	refused(t, withTop(`id="1"`, header+strings.Replace(varText, `primitiveType="char"`, `primitiveType="char" offset="2"`, 1), message("M", 1, "^"+data("g", 1, "text"))), api.ErrLengthType)
	// The primitive type of the place 0, and a composite without members as the last type.
	taken(t, inM(field("a", 1, "char")))
	taken(t, withTop(`id="1"`, header+`<composite name="None"/>`, message("M", 1, field("a", 1, "None"))))
	refused(t, withTop(`id="1"`, header+`<composite name="None"/>`, message("M", 1, "^"+group("a", 1, "", dim("None")))), api.ErrDimension)
	refused(t, withTop(`id="1"`, header+`<composite name="None"/>`, message("M", 1, "^"+data("a", 1, "None"))), api.ErrLengthType)
	// Types are found behind the messages too.
	s := taken(t, rootTag+message("M", 1, field("a", 1, "Side")+group("g", 2, "")+data("d", 3, "text"))+"<types>"+chapter+"</types>"+rootEnd)
	if s.Parts[1].Type != atSide || s.Parts[2].Type != atDimension || s.Parts[3].Type != atText {
		t.Errorf("the parts' types: %v", s.Parts)
	}
}
