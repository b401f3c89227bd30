package ir_test

import (
	"fmt"
	"reflect"
	"slices"
	"strings"
	"testing"

	"stencil/api"
	"stencil/ir"
	"stencil/prim"
	"stencil/schema"
	"stencil/types"
)

// The types of the chapter's M, and some more.
const (
	header    = `<composite name="messageHeader"><type name="blockLength" primitiveType="uint16"/><type name="templateId" primitiveType="uint16"/><type name="schemaId" primitiveType="uint16"/><type name="version" primitiveType="uint16"/></composite>`
	kind      = `<enum name="Kind" encodingType="uint8"><validValue name="A">1</validValue><validValue name="B">2</validValue></enum>`
	blob      = `<composite name="blob"><type name="length" primitiveType="uint16"/><type name="varData" primitiveType="uint8" length="0"/></composite>`
	dimension = `<composite name="groupSizeEncoding"><type name="blockLength" primitiveType="uint16"/><type name="numInGroup" primitiveType="uint8"/></composite>`
	chapter   = header + kind + blob
)

const ping = `<message name="Ping" id="1"><field name="seq" id="1" type="uint32"/><field name="kind" id="2" type="Kind" presence="optional" sinceVersion="1"/><data name="note" id="3" type="blob"/></message>`

// whole is the text of a schema with these types and messages.
func whole(ts, messages string) string {
	return `<messageSchema package="p" id="7" version="1"><types>` + ts + `</types>` + messages + `</messageSchema>`
}

func inM(parts string) string { return `<message name="M" id="1">` + parts + `</message>` }

func load(t testing.TB, text string) api.Schema {
	t.Helper()
	s, e, at := schema.Load(text)
	if e != api.OK {
		t.Fatalf("%.3000s: error %d at %d: %.60s", text, e, at, text[at:])
	}
	return s
}

func chapterM(t testing.TB) api.Schema { return load(t, whole(chapter, ping)) }

func compile(t testing.TB, s api.Schema, part int) api.Form {
	t.Helper()
	f, e := ir.Compile(s, part)
	if e != api.OK {
		t.Fatalf("P12.1: Compile(%d): error %d", part, e)
	}
	return f
}

func chapterForm(t testing.TB) api.Form { return compile(t, chapterM(t), 0) }

// tidy is a form in memory of its own, in which lists without elements are nil.
func tidy(f api.Form) api.Form {
	f.Tokens = append([]api.Token(nil), f.Tokens...)
	for i := range f.Tokens {
		f.Tokens[i].Const = append([]uint64(nil), f.Tokens[i].Const...)
	}
	return f
}

func alike(f, g api.Form) bool { return reflect.DeepEqual(tidy(f), tidy(g)) }

// copied is a schema in memory of its own.
func copied(s api.Schema) api.Schema {
	s.Types, s.Parts = slices.Clone(s.Types), slices.Clone(s.Parts)
	for i := range s.Types {
		s.Types[i].Const, s.Types[i].Values = slices.Clone(s.Types[i].Const), slices.Clone(s.Types[i].Values)
	}
	for i := range s.Parts {
		s.Parts[i].Const = slices.Clone(s.Parts[i].Const)
	}
	return s
}

// list is a form's tokens as lines, for faults to be seen.
func list(tokens []api.Token) string {
	var out strings.Builder
	for i, t := range tokens {
		fmt.Fprintf(&out, "%d %+v\n", i, t)
	}
	return out.String()
}

func spot(p api.Prim, offset int) api.Spot { return api.Spot{Prim: p, Offset: offset} }

// coding is the Encoding of one value of a primitive type, with that type's numbers.
func coding(name string, p api.Prim, offset int) api.Token {
	return api.Token{Op: api.Encoding, Name: name, Offset: offset, Size: prim.Size(p), Prim: p, Length: 1, Null: prim.Null(p), Min: prim.Min(p), Max: prim.Max(p)}
}

// several is a coding of more elements.
func several(name string, p api.Prim, offset, length int) api.Token {
	t := coding(name, p, offset)
	t.Length, t.Size = length, length*t.Size
	return t
}

// fixed is a coding that takes no bytes.
func fixed(name string, p api.Prim, offset int, words ...uint64) api.Token {
	t := coding(name, p, offset)
	t.Size, t.Length, t.Presence, t.Const = 0, len(words), api.Constant, words
	return t
}

func end(op api.TokenOp, name string) api.Token { return api.Token{Op: op, Name: name} }

// paired sets the Pairs of tokens by what is begun and ended.
func paired(tokens ...api.Token) []api.Token {
	tokens = slices.Clone(tokens)
	var open []int
	for i := range tokens {
		t := &tokens[i]
		t.Pair = i
		if t.Op >= api.Encoding || t.Op < 0 {
			continue
		}
		if t.Op%2 == 0 {
			open = append(open, i)
		} else if n := len(open) - 1; n >= 0 {
			t.Pair, tokens[open[n]].Pair, open = open[n], i, open[:n]
		}
	}
	return tokens
}

// Example 1 of the chapter; P12.1.
func TestChapterForm(t *testing.T) {
	s := chapterM(t)
	f := compile(t, s, schema.Message(s, "Ping"))
	want := api.Form{Order: api.Little, Schema: 7, Version: 1,
		Head: api.Head{Size: 8, Block: spot(api.Uint16, 0), Template: spot(api.Uint16, 2), Schema: spot(api.Uint16, 4), Version: spot(api.Uint16, 6)},
		Tokens: []api.Token{
			{Op: api.BeginMessage, Name: "Ping", ID: 1, Block: 5, Full: 5, Pair: 13},
			{Op: api.BeginField, Name: "seq", ID: 1, Size: 4, Pair: 3},
			{Op: api.Encoding, Name: "uint32", Size: 4, Prim: api.Uint32, Length: 1, Null: 4294967295, Max: 4294967294, Pair: 2},
			{Op: api.EndField, Name: "seq", Pair: 1},
			{Op: api.BeginField, Name: "kind", ID: 2, Offset: 4, Size: 1, Since: 1, Presence: api.Optional, Pair: 10},
			{Op: api.BeginEnum, Name: "Kind", Size: 1, Pair: 9},
			{Op: api.Encoding, Name: "uint8", Size: 1, Prim: api.Uint8, Length: 1, Null: 255, Max: 254, Pair: 6},
			{Op: api.Choice, Name: "A", Value: 1, Pair: 7},
			{Op: api.Choice, Name: "B", Value: 2, Pair: 8},
			{Op: api.EndEnum, Name: "Kind", Pair: 5},
			{Op: api.EndField, Name: "kind", Pair: 4},
			{Op: api.BeginData, Name: "note", ID: 3, Size: 2, A: spot(api.Uint16, 0), Prim: api.Uint8, Pair: 12},
			{Op: api.EndData, Name: "note", Pair: 11},
			{Op: api.EndMessage, Name: "Ping", Pair: 0},
		}}
	if !alike(f, want) {
		t.Errorf("%+v\n%swant\n%s", f, list(f.Tokens), list(want.Tokens))
	}
	all, e := ir.All(s)
	if e != api.OK || len(all) != 1 || !alike(all[0], want) {
		t.Errorf("All: %+v, error %d", all, e)
	}
}

// Example 2 of the chapter; P12.1.
func TestNoMessage(t *testing.T) {
	s := load(t, whole(chapter+dimension, ping+`<message name="N" id="2"><group name="g" id="1"/></message>`))
	for place, want := range map[int]api.Errno{-1 << 63: 120, -1: 120, 0: 0, 1: 120, 2: 120, 3: 120, 4: 0, 5: 120, 6: 120, 1<<63 - 1: 120} {
		f, e := ir.Compile(s, place)
		if e != want || (e != api.OK) != reflect.DeepEqual(f, api.Form{}) {
			t.Errorf("Compile(%d): %+v, error %d, want %d", place, f, e, want)
		}
	}
	s.Parts = nil
	if f, e := ir.Compile(s, 0); e != api.ErrPart || !reflect.DeepEqual(f, api.Form{}) {
		t.Errorf("without parts: %+v, error %d", f, e)
	}
	if all, e := ir.All(s); e != api.OK || len(all) != 0 {
		t.Errorf("All without parts: %+v, error %d", all, e)
	}
}

// Example 2 of the chapter; P12.1: what is no schema is refused as schema.Valid refuses it, ahead of a place that is none.
func TestNoSchema(t *testing.T) {
	for i, spoil := range []func(s *api.Schema){
		func(s *api.Schema) { *s = api.Schema{} },
		func(s *api.Schema) { s.Package = "" },
		func(s *api.Schema) { s.Order = 2 },
		func(s *api.Schema) { s.Types = s.Types[1:] },
		func(s *api.Schema) { s.Types[12].Name = "" },
		func(s *api.Schema) { s.Types[12].Name = "other" },
		func(s *api.Schema) { s.Header = 0 },
		func(s *api.Schema) { s.Types[16].Values[1].Since = 2 },
		func(s *api.Schema) { s.Parts[0].Depth = 2 },
		func(s *api.Schema) { s.Parts[2].ID = 1 },
		func(s *api.Schema) { s.Parts[2].Name = "seq" },
		func(s *api.Schema) { s.Parts[1].Type = 17 },
		func(s *api.Schema) { s.Parts[1].Type = len(s.Types) },
		func(s *api.Schema) { s.Parts[3].Type = 3 },
		func(s *api.Schema) { s.Parts[2].Since = 2 },
		func(s *api.Schema) { s.Parts[2].Presence = api.Required },
		func(s *api.Schema) { s.Parts[2].Offset = 3 },
		func(s *api.Schema) { s.Parts[0].Block = 4 },
		func(s *api.Schema) { s.Parts[0].Kind = api.PartGroup },
	} {
		s := copied(chapterM(t))
		spoil(&s)
		want, _ := schema.Valid(s)
		if want == api.OK {
			t.Fatalf("%d: still a schema", i)
		}
		for _, place := range []int{-1, 0, 1, 4} {
			if f, e := ir.Compile(s, place); e != want || !reflect.DeepEqual(f, api.Form{}) {
				t.Errorf("%d: Compile(%d): %+v, error %d, want %d", i, place, f, e, want)
			}
		}
		if all, e := ir.All(s); e != want || len(all) != 0 {
			t.Errorf("%d: All: %+v, error %d, want %d", i, all, e, want)
		}
	}
}

// The types of a schema that has all that there is.
const (
	oddHeader = `<composite name="Head"><type name="version" primitiveType="uint32" offset="1"/><type name="templateId" primitiveType="uint8"/><type name="blockLength" primitiveType="uint16" offset="8"/><type name="schemaId" primitiveType="uint8"/></composite>`
	oddDim    = `<composite name="Dim"><type name="numInGroup" primitiveType="uint8" offset="1"/><type name="blockLength" primitiveType="uint32" offset="3"/></composite>`
	oddData   = `<composite name="Str"><type name="length" primitiveType="uint8"/><type name="varData" primitiveType="char" length="0"/></composite><composite name="Big"><type name="length" primitiveType="uint32"/><type name="varData" primitiveType="uint8" length="0"/></composite>`
	oddTypes  = `<type name="Opt" primitiveType="int16" presence="optional" nullValue="-1" minValue="-5" maxValue="5"/><type name="Arr" primitiveType="float" length="3"/>` +
		`<type name="Two" primitiveType="uint8" presence="constant">2</type><type name="AB" primitiveType="char" presence="constant" length="3">AB</type>` +
		`<enum name="Side" encodingType="Opt"><validValue name="Buy">-1</validValue><validValue name="Sell" sinceVersion="1">2</validValue></enum><enum name="None" encodingType="char"/>` +
		`<set name="Bits" encodingType="uint64"><choice name="hi">63</choice><choice name="lo" sinceVersion="1">0</choice></set><set name="NoBits" encodingType="uint8"/>` +
		`<composite name="In"><ref name="i" type="Two"/><type name="j" primitiveType="uint8" offset="2"/><set name="k" encodingType="uint16"><choice name="z">15</choice></set></composite>` +
		`<composite name="Out"><type name="m" primitiveType="double" offset="1"/><type name="e" primitiveType="int8" presence="constant">-2</type><ref name="s" type="Side"/><ref name="in" type="In" offset="12"/><composite name="nil"/><ref name="again" type="In"/></composite>` +
		`<composite name="Con"><ref name="a" type="Two"/><ref name="b" type="AB"/></composite>`
	oddMessages = `<message name="First" id="254"/>` +
		`<message name="All" id="3" blockLength="90" sinceVersion="1" deprecated="1">` +
		`<field name="out" id="3" type="Out" offset="3" sinceVersion="1"/><field name="two" id="1" type="Two" sinceVersion="1"/><field name="ab" id="2" type="AB" sinceVersion="1"/>` +
		`<field name="fix" id="4" type="Side" presence="constant" valueRef="Side.Buy" sinceVersion="1"/><field name="con" id="5" type="Con" presence="optional" sinceVersion="1"/>` +
		`<field name="opt" id="6" type="Opt" sinceVersion="2"/><field name="arr" id="7" type="Arr" presence="optional" offset="50" sinceVersion="2"/>` +
		`<field name="none" id="8" type="None" presence="optional" sinceVersion="2"/><field name="bits" id="9" type="Bits" presence="optional" sinceVersion="3"/><field name="nobits" id="10" type="NoBits" presence="optional" sinceVersion="3"/>` +
		`<group name="g" id="11" dimensionType="Dim" sinceVersion="1"><field name="two" id="12" type="Opt" sinceVersion="1"/>` +
		`<group name="g" id="13" dimensionType="Dim" blockLength="7" sinceVersion="1"/><group name="h" id="14" dimensionType="Dim" sinceVersion="1"><data name="d" id="15" type="Str" sinceVersion="1"/></group>` +
		`<data name="d" id="16" type="Big" sinceVersion="1"/></group><data name="d" id="17" type="Str" sinceVersion="2"/></message>` +
		`<message name="Last" id="0"><data name="only" id="0" type="Big"/></message>`
)

func oddSchema(t testing.TB) api.Schema {
	return load(t, `<messageSchema package="p" id="254" version="3" byteOrder="bigEndian" headerType="Head"><types>`+oddHeader+oddDim+oddData+oddTypes+`</types>`+oddMessages+`</messageSchema>`)
}

func oddForms(t testing.TB) []api.Form {
	t.Helper()
	all, e := ir.All(oddSchema(t))
	if e != api.OK {
		t.Fatalf("P12.1: All: error %d", e)
	}
	return all
}

// minus is the word of a number below 0.
func minus(n int64) uint64 { return uint64(-n) }

// inTokens are the tokens of the type In of the odd schema at a place.
func inTokens(name string, at int) []api.Token {
	return []api.Token{
		{Op: api.BeginComposite, Name: name, Offset: at, Size: 5}, fixed("i", api.Uint8, at, 2), coding("j", api.Uint8, at+2),
		{Op: api.BeginSet, Name: "k", Offset: at + 3, Size: 2}, setCoding(api.Uint16, at+3), {Op: api.Choice, Name: "z", Value: 15}, end(api.EndSet, "k"), end(api.EndComposite, name),
	}
}

// setCoding is the Encoding of a set, whose null is 0.
func setCoding(p api.Prim, offset int) api.Token {
	t := coding(types.NameOf(p), p, offset)
	t.Null = 0
	return t
}

// optional is what has the numbers of the odd schema's Opt.
func optional(name string, at int, presence api.Presence) api.Token {
	t := coding(name, api.Int16, at)
	t.Presence, t.Null, t.Min, t.Max = presence, minus(1), minus(5), 5
	return t
}

func sideTokens(name string, at int) []api.Token {
	return []api.Token{
		{Op: api.BeginEnum, Name: name, Offset: at, Size: 2}, optional("int16", at, api.Required),
		{Op: api.Choice, Name: "Buy", Value: minus(1)}, {Op: api.Choice, Name: "Sell", Value: 2, Since: 1}, end(api.EndEnum, name),
	}
}

// oddTokens are those of the message All, out of the chapter's words by hand.
func oddTokens() []api.Token {
	field := func(t api.Token, held ...[]api.Token) []api.Token {
		t.Op = api.BeginField
		return append(append([]api.Token{t}, slices.Concat(held...)...), end(api.EndField, t.Name))
	}
	one := func(ts ...api.Token) []api.Token { return ts }
	dim := func(name string, id, block int) []api.Token {
		return one(api.Token{Op: api.BeginGroup, Name: name, ID: id, Since: 1, Size: 7, Block: block, Full: block, A: spot(api.Uint32, 3), B: spot(api.Uint8, 1)})
	}
	data := func(name string, id, since int, length, bytes api.Prim) []api.Token {
		return one(api.Token{Op: api.BeginData, Name: name, ID: id, Since: since, Size: prim.Size(length), A: spot(length, 0), Prim: bytes}, end(api.EndData, name))
	}
	return paired(slices.Concat(
		one(api.Token{Op: api.BeginMessage, Name: "All", ID: 3, Since: 1, Block: 90, Full: 90}),
		field(api.Token{Name: "out", ID: 3, Offset: 3, Size: 22, Since: 1},
			one(api.Token{Op: api.BeginComposite, Name: "Out", Size: 22}, coding("m", api.Double, 1), fixed("e", api.Int8, 0, minus(2))), sideTokens("s", 9), inTokens("in", 12),
			one(api.Token{Op: api.BeginComposite, Name: "nil"}, end(api.EndComposite, "nil")), inTokens("again", 17), one(end(api.EndComposite, "Out"))),
		field(api.Token{Name: "two", ID: 1, Since: 1, Presence: api.Constant, Const: []uint64{2}}, one(fixed("Two", api.Uint8, 0, 2))),
		field(api.Token{Name: "ab", ID: 2, Since: 1, Presence: api.Constant, Const: []uint64{65, 66, 0}}, one(fixed("AB", api.Char, 0, 65, 66, 0))),
		field(api.Token{Name: "fix", ID: 4, Since: 1, Presence: api.Constant, Const: []uint64{minus(1)}}, sideTokens("Side", 0)),
		field(api.Token{Name: "con", ID: 5, Since: 1, Presence: api.Optional}, one(api.Token{Op: api.BeginComposite, Name: "Con"}, fixed("a", api.Uint8, 0, 2), fixed("b", api.Char, 0, 65, 66, 0), end(api.EndComposite, "Con"))),
		field(api.Token{Name: "opt", ID: 6, Offset: 25, Size: 2, Since: 2, Presence: api.Optional}, one(optional("Opt", 0, api.Optional))),
		field(api.Token{Name: "arr", ID: 7, Offset: 50, Size: 12, Since: 2, Presence: api.Optional}, one(several("Arr", api.Float, 0, 3))),
		field(api.Token{Name: "none", ID: 8, Offset: 62, Size: 1, Since: 2, Presence: api.Optional}, one(api.Token{Op: api.BeginEnum, Name: "None", Size: 1}, coding("char", api.Char, 0), end(api.EndEnum, "None"))),
		field(api.Token{Name: "bits", ID: 9, Offset: 63, Size: 8, Since: 3, Presence: api.Optional},
			one(api.Token{Op: api.BeginSet, Name: "Bits", Size: 8}, setCoding(api.Uint64, 0), api.Token{Op: api.Choice, Name: "hi", Value: 63}, api.Token{Op: api.Choice, Name: "lo", Since: 1}, end(api.EndSet, "Bits"))),
		field(api.Token{Name: "nobits", ID: 10, Offset: 71, Size: 1, Since: 3, Presence: api.Optional}, one(api.Token{Op: api.BeginSet, Name: "NoBits", Size: 1}, setCoding(api.Uint8, 0), end(api.EndSet, "NoBits"))),
		dim("g", 11, 2),
		field(api.Token{Name: "two", ID: 12, Size: 2, Since: 1, Presence: api.Optional}, one(optional("Opt", 0, api.Optional))),
		dim("g", 13, 7), one(end(api.EndGroup, "g")),
		dim("h", 14, 0), data("d", 15, 1, api.Uint8, api.Char), one(end(api.EndGroup, "h")),
		data("d", 16, 1, api.Uint32, api.Uint8), one(end(api.EndGroup, "g")),
		data("d", 17, 2, api.Uint8, api.Char),
		one(end(api.EndMessage, "All")),
	)...)
}

// P12.1: types of all Kinds in one another, constants, written constants, sets and enums with no Values, groups in groups, data in groups.
func TestAllKinds(t *testing.T) {
	s := oddSchema(t)
	form := func(tokens ...api.Token) api.Form {
		return api.Form{Order: api.Big, Schema: 254, Version: 3,
			Head:   api.Head{Size: 11, Block: spot(api.Uint16, 8), Template: spot(api.Uint8, 5), Schema: spot(api.Uint8, 10), Version: spot(api.Uint32, 1)},
			Tokens: paired(tokens...)}
	}
	wants := []api.Form{
		form(api.Token{Op: api.BeginMessage, Name: "First", ID: 254}, end(api.EndMessage, "First")),
		form(oddTokens()...),
		form(api.Token{Op: api.BeginMessage, Name: "Last"}, api.Token{Op: api.BeginData, Name: "only", Size: 4, A: spot(api.Uint32, 0), Prim: api.Uint8}, end(api.EndData, "only"), end(api.EndMessage, "Last")),
	}
	all := oddForms(t)
	if len(all) != len(wants) {
		t.Fatalf("P12.1: All: %d forms", len(all))
	}
	for i, want := range wants {
		name := want.Tokens[0].Name
		if f := compile(t, s, schema.Message(s, name)); !alike(f, want) || !alike(all[i], want) {
			t.Errorf("%s: %+v\n%swant %+v\n%s", name, f, list(f.Tokens), want, list(want.Tokens))
		}
		if e, at := ir.Check(want); e != api.OK || at != 0 {
			t.Errorf("P12.2: Check of %s: error %d, %d", name, e, at)
		}
	}
}

// P12.1: every primitive type as a field's, and as an enum's and set's.
func TestAllPrims(t *testing.T) {
	for p := api.Char; p <= api.Double; p++ {
		name := types.NameOf(p)
		f := compile(t, load(t, whole(header, inM(`<field name="f" id="9" type="`+name+`"/>`))), 0)
		if want := paired(f.Tokens[0], f.Tokens[1], coding(name, p, 0), f.Tokens[3], f.Tokens[4]); !reflect.DeepEqual(tidy(f).Tokens, want) || f.Tokens[1].Size != prim.Size(p) {
			t.Errorf("%s: %s", name, list(f.Tokens))
		}
		for _, element := range []string{"enum", "set"} {
			s, e, _ := schema.Load(whole(header+`<`+element+` name="T" encodingType="`+name+`"/>`, inM(`<field name="f" id="9" type="T"/>`)))
			if e != api.OK {
				continue
			}
			begin, encoding := api.Token{Op: api.BeginEnum, Name: "T", Size: prim.Size(p)}, coding(name, p, 0)
			if element == "set" {
				begin.Op, encoding = api.BeginSet, setCoding(p, 0)
			}
			f := compile(t, s, 0)
			if want := paired(f.Tokens[0], f.Tokens[1], begin, encoding, end(begin.Op+1, "T"), f.Tokens[5], f.Tokens[6]); !reflect.DeepEqual(tidy(f).Tokens, want) {
				t.Errorf("%s of %s: %s", element, name, list(f.Tokens))
			}
		}
	}
}
