package evolve_test

import (
	"fmt"
	"slices"
	"strings"
	"testing"

	"stencil/api"
	"stencil/evolve"
	"stencil/prim"
	"stencil/schema"
)

// breaks sees that the breaches of two schemas are just these, and that a second one tells the same.
func breaks(t *testing.T, what string, a, b api.Schema, want string) {
	t.Helper()
	got, e := hold(t, a, b)
	if e != api.OK || told(got) != want {
		t.Errorf("P11.3: %s: error %d, %q, want %q", what, e, told(got), want)
	}
}

// P11.3, the chapter's example 3.
func TestBreachesOfVersions(t *testing.T) {
	s := chapterS(t)
	one, none := at(t, s, 1), at(t, s, 0)
	for _, r := range []struct {
		what string
		a, b api.Schema
		want string
	}{
		{"At(S, 1), S", one, s, ""},
		{"At(S, 0), S", none, s, ""},
		{"At(S, 0), At(S, 1)", none, one, ""},
		{"S, S", s, s, "older"},
		{"S, At(S, 1)", s, one, "older"},
		{"At(S, 1), At(S, 0)", one, none, "older"},
	} {
		breaks(t, r.what, r.a, r.b, r.want)
	}
}

// P11.3, the chapter's example 4.
func TestBreachesOfTheChapter(t *testing.T) {
	s := chapterS(t)
	three := func(parts string) api.Schema { return load(t, whole(3, chapter, inM(parts)+messageN)) }
	rest := groupG + dataD
	const newZ = `<field name="z" id="20" type="uint8" presence="optional" sinceVersion="3"/>`
	for _, r := range []struct {
		what string
		b    api.Schema
		want string
	}{
		{"version 3", three(fieldA + fieldB + fieldC + rest), ""},
		{"without c", turned(t, s, version(3), func(s *api.Schema) { s.Parts = slices.Delete(s.Parts, 3, 4) }), "gone M.c"},
		{"b's offset 2 and c's 4", three(fieldA + strings.Replace(fieldB, "id", `offset="2" id`, 1) + fieldC + rest), "shrunk M, moved M.b, moved M.c"},
		{"a of int8", three(strings.Replace(fieldA, "uint8", "int8", 1) + fieldB + fieldC + rest), "retyped M.a"},
		{"z since 0 behind a", three(fieldA + `<field name="z" id="20" type="uint8"/>` + fieldB + fieldC + rest), "shrunk M, moved M.b, moved M.c, not-new M.z"},
		{"z since 3 behind c", three(fieldA + fieldB + fieldC + newZ + rest), ""},
		{"another package", turned(t, s, version(3), func(s *api.Schema) { s.Package = "q" }), "other"},
	} {
		breaks(t, r.what, s, r.b, r.want)
	}
}

// P11.3, the chapter's example 5: of each field of the type Side.
func TestBreachesOfValues(t *testing.T) {
	const fields = `<field name="one" id="1" type="Side"/><field name="other" id="2" type="uint8"/><group name="g" id="3"><field name="two" id="4" type="Side"/><field name="k" id="5" type="Side" presence="constant" valueRef="Side.Buy"/></group>`
	a := ofVersion(t, 2, "", fields)
	with := func(values string) api.Schema {
		return load(t, whole(3, header+dimension+varText+`<enum name="Side" encodingType="uint8">`+values+`</enum>`, inM(fields)))
	}
	const buy, sell, hold = `<validValue name="Buy">1</validValue>`, `<validValue name="Sell" sinceVersion="1">2</validValue>`, `<validValue name="Hold" sinceVersion="3">3</validValue>`
	const all = "retyped M.one, retyped M.g.two, retyped M.g.k"
	for _, r := range []struct{ what, values, want string }{
		{"as they were", buy + sell, ""},
		{"with Hold", buy + sell + hold, ""},
		{"with Hold, as if it had been there", buy + sell + strings.Replace(hold, "3", "0", 1), ""},
		{"with Hold ahead", hold + buy + sell, ""},
		{"in another order", sell + buy, ""},
		{"without Sell", buy, all},
		{"without Sell, with Hold", buy + hold, all},
		{"Sell has another name", buy + strings.Replace(sell, "Sell", "sell", 1), all},
		{"Sell has another value", buy + strings.Replace(sell, ">2", ">3", 1), all},
		{"Sell is older", buy + strings.Replace(sell, `"1"`, `"0"`, 1), all},
		{"Sell is newer", buy + strings.Replace(sell, `"1"`, `"2"`, 1), all},
		{"Sell is new", buy + strings.Replace(sell, `"1"`, `"3"`, 1), all},
	} {
		breaks(t, r.what, a, with(r.values), r.want)
	}
}

// P11.3: schema.Valid's error of the first schema, then of the second.
func TestBreachesOfNoSchemas(t *testing.T) {
	bad, good := spoilt(t), chapterS(t)
	for _, x := range bad {
		for _, r := range []struct {
			a, b api.Schema
			want api.Errno
		}{{x.s, good, x.err}, {good, x.s, x.err}, {x.s, x.s, x.err}} {
			if l, e := hold(t, r.a, r.b); e != r.want || len(l) != 0 {
				t.Errorf("P11.3: %+v, error %d, want %d", l, e, r.want)
			}
		}
		for _, y := range bad {
			if l, e := evolve.Breaches(x.s, y.s); e != x.err || len(l) != 0 || evolve.Follows(x.s, y.s) {
				t.Errorf("P11.3: %+v, error %d, want %d", l, e, x.err)
			}
		}
	}
}

// P11.3: what makes another schema, by each cause; ErrOlder behind it, and nothing behind that.
func TestOther(t *testing.T) {
	s := at(t, chapterS(t), 1)
	head := node(t, s, "messageHeader")
	swap := func(i, k int) func(s *api.Schema) {
		return func(s *api.Schema) { s.Types[i].Name, s.Types[k].Name = s.Types[k].Name, s.Types[i].Name }
	}
	wide := func(k int) func(s *api.Schema) {
		return func(s *api.Schema) {
			n := &s.Types[head+k]
			p := api.Uint32
			n.Prim, n.Size, n.Null, n.Min, n.Max = p, prim.Size(p), prim.Null(p), prim.Min(p), prim.Max(p)
			for i := head + k + 1; i <= head+4; i++ {
				s.Types[i].Offset += 2
			}
			s.Types[head].Size += 2
		}
	}
	for _, r := range []struct {
		what string
		turn func(s *api.Schema)
		want string
	}{
		{"nothing", func(s *api.Schema) {}, ""},
		{"package", func(s *api.Schema) { s.Package = "p.p" }, "other"},
		{"id", func(s *api.Schema) { s.ID = 2 }, "other"},
		{"order", func(s *api.Schema) { s.Order = api.Big }, "other"},
		{"blockLength and version in each other's place", swap(head+1, head+4), "other"},
		{"templateId and schemaId in each other's place", swap(head+2, head+3), "other"},
		{"a wider blockLength", wide(1), "other"},
		{"a wider templateId", wide(2), "other"},
		{"a wider schemaId", wide(3), "other"},
		{"a wider version", wide(4), "other"},
		{"a gap in the header", func(s *api.Schema) { s.Types[head+4].Offset, s.Types[head].Size = 7, 9 }, "other"},
		{"another name of the header", func(s *api.Schema) { s.Types[head].Name = "other" }, ""},
		{"another null in the header", func(s *api.Schema) { s.Types[head+1].Null = 5 }, ""},
		{"another place of the header", func(s *api.Schema) {
			s.Header = len(s.Types)
			s.Types = append(s.Types, s.Types[head:head+5]...)
			s.Types[s.Header].Name = "again"
		}, ""},
		{"all at once", func(s *api.Schema) { s.Package, s.ID, s.Order = "q", 3, api.Big }, "other"},
	} {
		breaks(t, r.what, s, turned(t, s, r.turn, version(2)), r.want)
		older := "older"
		if r.want != "" {
			older = r.want + ", older"
		}
		breaks(t, r.what+", not above", s, turned(t, s, r.turn), older)
		breaks(t, r.what+", with more behind", s, turned(t, s, r.turn, version(2), func(s *api.Schema) { s.Parts[1].ID = 99 }), strings.TrimPrefix(r.want+", retyped M.a", ", "))
		breaks(t, r.what+", not above, with more behind", s, turned(t, s, r.turn, func(s *api.Schema) { s.Parts[1].ID = 99 }), older)
	}
}

// P11.3: what was there is gone, by each cause.
func TestGone(t *testing.T) {
	a := ofVersion(t, 1, "", `<field name="f" id="1" type="uint8"/><group name="g" id="2"><field name="x" id="3" type="uint8"/><data name="y" id="4" type="text"/></group><data name="d" id="5" type="text"/>`)
	for _, r := range []struct {
		what, parts, want string
	}{
		{"nothing", `<field name="f" id="1" type="uint8"/><group name="g" id="2"><field name="x" id="3" type="uint8"/><data name="y" id="4" type="text"/></group><data name="d" id="5" type="text"/>`, ""},
		{"all", ``, "shrunk M, gone M.f, gone M.g, gone M.g.x, gone M.g.y, gone M.d"},
		{"a group with what it holds", `<field name="f" id="1" type="uint8"/><data name="d" id="5" type="text"/>`, "gone M.g, gone M.g.x, gone M.g.y"},
		{"what a group holds", `<field name="f" id="1" type="uint8"/><group name="g" id="2"/><data name="d" id="5" type="text"/>`, "shrunk M.g, gone M.g.x, gone M.g.y"},
		{"a name", `<field name="F" id="1" type="uint8"/><group name="g" id="2"><field name="x" id="3" type="uint8"/><data name="y" id="4" type="text"/></group><data name="d" id="5" type="text"/>`, "gone M.f, not-new M.F"},
		{"a group's name", `<field name="f" id="1" type="uint8"/><group name="h" id="2"><field name="x" id="3" type="uint8"/><data name="y" id="4" type="text"/></group><data name="d" id="5" type="text"/>`, "gone M.g, gone M.g.x, gone M.g.y, not-new M.h, not-new M.h.x, not-new M.h.y"},
		{"it came later", `<field name="f" id="1" type="uint8" presence="optional" sinceVersion="2"/><group name="g" id="2" sinceVersion="2"><field name="x" id="3" type="uint8" sinceVersion="2"/><data name="y" id="4" type="text" sinceVersion="2"/></group><data name="d" id="5" type="text" sinceVersion="2"/>`, "shrunk M, gone M.f, gone M.g, gone M.g.x, gone M.g.y, gone M.d"},
		{"it stands elsewhere", `<field name="f" id="1" type="uint8"/><field name="x" id="3" type="uint8"/><group name="g" id="2" blockLength="1"/><data name="d" id="5" type="text"/><data name="y" id="4" type="text"/>`, "shrunk M, gone M.g.x, gone M.g.y, not-new M.x, not-new M.y"},
	} {
		breaks(t, r.what, a, ofVersion(t, 2, "", r.parts), r.want)
	}
	breaks(t, "a message", a, load(t, whole(2, chapter, `<message name="N" id="1"/>`)), "gone M, gone M.f, gone M.g, gone M.g.x, gone M.g.y, gone M.d, not-new N")
	breaks(t, "a later message", load(t, whole(1, chapter, inM(``))), load(t, whole(2, chapter, `<message name="M" id="1" sinceVersion="2"/>`)), "gone M")
	breaks(t, "all messages", load(t, whole(1, chapter, inM(``)+`<message name="N" id="2"/>`)), load(t, whole(2, chapter, ``)), "gone M, gone N")
	breaks(t, "messages in another order", load(t, whole(1, chapter, inM(``)+`<message name="N" id="2"/>`)), load(t, whole(2, chapter, `<message name="N" id="2"/>`+inM(``))), "")
}

// P11.3: a part is retyped by its Kind, its ID, its Presence, its Const; of all Kinds.
func TestRetypedParts(t *testing.T) {
	const more = `<type name="AB" primitiveType="char" presence="constant">AB</type><type name="AC" primitiveType="char" presence="constant">AC</type><type name="A" primitiveType="char" presence="constant">A</type><composite name="wide"><type name="blockLength" primitiveType="uint16"/><type name="numInGroup" primitiveType="uint16"/></composite><composite name="bytes"><type name="length" primitiveType="uint8"/><type name="varData" primitiveType="uint8" length="0"/></composite><composite name="long"><type name="length" primitiveType="uint16"/><type name="varData" primitiveType="char" length="0"/></composite><type name="U" primitiveType="uint8"/><composite name="again"><type name="blockLength" primitiveType="uint16"/><type name="numInGroup" primitiveType="uint8"/></composite>`
	a := ofVersion(t, 1, more, `<field name="f" id="1" type="uint8"/><field name="k" id="2" type="AB"/><field name="e" id="3" type="Side" presence="constant" valueRef="Side.Buy" sinceVersion="1"/><group name="g" id="4"><field name="x" id="5" type="uint8" presence="optional"/></group><data name="d" id="6" type="text"/>`)
	put := func(path string, turn func(p *api.Part)) func(s *api.Schema) {
		return func(s *api.Schema) { turn(&s.Parts[part(t, *s, path)]) }
	}
	kind := func(path, name string) func(s *api.Schema) {
		return func(s *api.Schema) { s.Parts[part(t, *s, path)].Type = node(t, *s, name) }
	}
	constant := func(path, name string, words ...uint64) func(s *api.Schema) {
		return func(s *api.Schema) {
			p := &s.Parts[part(t, *s, path)]
			p.Type, p.Presence, p.Const = node(t, *s, name), api.Constant, words
		}
	}
	for _, r := range []struct {
		what string
		turn func(s *api.Schema)
		want string
	}{
		{"a message's id", put("M", func(p *api.Part) { p.ID = 9 }), "retyped M"},
		{"a field's id", put("M.f", func(p *api.Part) { p.ID = 9 }), "retyped M.f"},
		{"a constant's id", put("M.k", func(p *api.Part) { p.ID = 9 }), "retyped M.k"},
		{"a group's id", put("M.g", func(p *api.Part) { p.ID = 9 }), "retyped M.g"},
		{"an inner field's id", put("M.g.x", func(p *api.Part) { p.ID = 9 }), "retyped M.g.x"},
		{"data's id", put("M.d", func(p *api.Part) { p.ID = 9 }), "retyped M.d"},
		{"required, now optional", put("M.f", func(p *api.Part) { p.Presence = api.Optional }), "retyped M.f"},
		{"optional, now required", put("M.g.x", func(p *api.Part) { p.Presence = api.Required }), "retyped M.g.x"},
		{"deprecated, which is no matter", put("M.f", func(p *api.Part) { p.Deprecated = 1 }), ""},
		{"another constant of an enum", constant("M.e", "Side", 2), "retyped M.e"},
		{"another constant type", constant("M.k", "AC", 65, 67), "retyped M.k"},
		{"a shorter constant type", constant("M.k", "A", 65), "retyped M.k"},
		{"another type of a field", kind("M.f", "int8"), "retyped M.f"},
		{"the same type by another name", kind("M.f", "U"), ""},
		{"another dimension", kind("M.g", "wide"), "retyped M.g"},
		{"the same dimension by another name", kind("M.g", "again"), ""},
		{"another varData", kind("M.d", "bytes"), "retyped M.d"},
		{"another length", kind("M.d", "long"), "retyped M.d"},
		{"all of them", func(s *api.Schema) {
			for i := range s.Parts {
				s.Parts[i].ID += 100
			}
		}, "retyped M, retyped M.f, retyped M.k, retyped M.e, retyped M.g, retyped M.g.x, retyped M.d"},
	} {
		breaks(t, r.what, a, turned(t, a, r.turn, version(2)), r.want)
	}
}

// P11.3: parts that change their Kind, with all else that this changes.
func TestChangedKinds(t *testing.T) {
	parts := map[string]string{
		"field":    `<field name="p" id="9" type="uint8"/>`,
		"constant": `<field name="p" id="9" type="Two"/>`,
		"group":    `<group name="p" id="9" blockLength="3"/>`,
		"empty":    `<group name="p" id="9"/>`,
		"data":     `<data name="p" id="9" type="text"/>`,
		"numbers":  `<field name="p" id="9" type="groupSizeEncoding"/>`,
	}
	const two = `<type name="Two" primitiveType="uint8" presence="constant">2</type>`
	for _, r := range []struct{ a, b, ahead, want string }{
		{"field", "group", "", "shrunk M, retyped M.p, shrunk M.p"},
		{"field", "empty", "", "shrunk M, retyped M.p"},
		{"field", "data", "", "shrunk M, retyped M.p"},
		{"field", "constant", "", "shrunk M, retyped M.p"},
		{"constant", "field", "", "shrunk M, retyped M.p"},
		{"constant", "data", "", "retyped M.p"},
		{"constant", "group", "", "retyped M.p, shrunk M.p"},
		{"group", "field", "", "shrunk M, retyped M.p, shrunk M.p"},
		{"group", "constant", "", "retyped M.p, shrunk M.p"},
		{"group", "data", "", "retyped M.p, shrunk M.p"},
		{"empty", "data", "", "retyped M.p"},
		{"data", "empty", "", "retyped M.p"},
		{"data", "group", "", "retyped M.p, shrunk M.p"},
		{"data", "field", "", "shrunk M, retyped M.p"},
		// A field may have the type that is the group's dimension: the Kind alone tells.
		{"numbers", "empty", "", "shrunk M, retyped M.p"},
		{"empty", "numbers", "", "shrunk M, retyped M.p"},
		// Behind another field the offset changes too.
		{"field", "group", `<field name="f" id="8" type="uint8"/>`, "shrunk M, retyped M.p, moved M.p, shrunk M.p"},
		{"group", "field", `<field name="f" id="8" type="uint8"/>`, "shrunk M, retyped M.p, moved M.p, shrunk M.p"},
		{"group", "constant", `<field name="f" id="8" type="uint8"/>`, "retyped M.p, shrunk M.p"},
		{"data", "group", `<field name="f" id="8" type="uint8"/>`, "retyped M.p, shrunk M.p"},
	} {
		a, b := ofVersion(t, 1, two, r.ahead+parts[r.a]), ofVersion(t, 2, two, r.ahead+parts[r.b])
		breaks(t, r.a+" to "+r.b, a, b, r.want)
	}
	// What stood in it is gone.
	a := ofVersion(t, 1, "", `<group name="p" id="9"><field name="x" id="10" type="uint8"/></group>`)
	breaks(t, "a group that held a field", a, ofVersion(t, 2, "", parts["data"]), "retyped M.p, shrunk M.p, gone M.p.x")
	breaks(t, "a group that holds a field", ofVersion(t, 1, "", parts["data"]), turned(t, a, version(2)), "retyped M.p, shrunk M.p, not-new M.p.x")
}

// P11.3: a part has moved by its Offset or its Since, of all Kinds.
func TestMoved(t *testing.T) {
	const opt = ` presence="optional"`
	base := func(v int) api.Schema {
		return load(t, whole(v, chapter, inM(`<field name="a" id="1" type="uint8"/><field name="b" id="2" type="uint8"`+opt+` sinceVersion="2"/><group name="g" id="3"><field name="x" id="4" type="uint8"/><field name="y" id="5" type="uint8"`+opt+` sinceVersion="2"/><data name="z" id="6" type="text"/></group><data name="d" id="7" type="text"/>`)+`<message name="N" id="2" sinceVersion="1"/>`))
	}
	since := func(v int, paths ...string) func(s *api.Schema) {
		return func(s *api.Schema) {
			for _, path := range paths {
				s.Parts[part(t, *s, path)].Since = v
			}
		}
	}
	offset := func(v int, path, holder string, block int) func(s *api.Schema) {
		return func(s *api.Schema) {
			s.Parts[part(t, *s, path)].Offset = v
			s.Parts[part(t, *s, holder)].Block = block
		}
	}
	a := base(3)
	for _, r := range []struct {
		what  string
		turns []func(s *api.Schema)
		want  string
	}{
		{"nothing", nil, ""},
		{"a field's offset", []func(s *api.Schema){offset(3, "M.b", "M", 4)}, "shrunk M, moved M.b"},
		{"an inner field's offset", []func(s *api.Schema){offset(2, "M.g.y", "M.g", 3)}, "shrunk M.g, moved M.g.y"},
		{"a field is older", []func(s *api.Schema){since(1, "M.b")}, "moved M.b"},
		{"a field is newer", []func(s *api.Schema){since(3, "M.b", "M.g.y")}, "moved M.b, moved M.g.y"},
		{"a message is older", []func(s *api.Schema){since(0, "N")}, "moved N"},
		{"a message is newer", []func(s *api.Schema){since(3, "N")}, "moved N"},
		{"data is newer", []func(s *api.Schema){since(1, "M.d")}, "moved M.d"},
		{"a group is newer, with what it holds", []func(s *api.Schema){since(2, "M.g", "M.g.x", "M.g.y", "M.g.z", "M.d")}, "moved M.g, moved M.g.x, moved M.g.z, moved M.d"},
		{"offset and since", []func(s *api.Schema){offset(3, "M.b", "M", 4), since(1, "M.b")}, "shrunk M, moved M.b"},
	} {
		breaks(t, r.what, a, turned(t, a, append(r.turns, version(4))...), r.want)
	}
	// A gap ahead of what is later may be filled at a later version, for the block length was there.
	gap := ofVersion(t, 1, "", `<field name="a" id="1" type="uint8" offset="4"/>`)
	breaks(t, "a field in the gap ahead", gap, ofVersion(t, 2, "", `<field name="z" id="2" type="uint8"/><field name="a" id="1" type="uint8" offset="4"/>`), "not-new M.z")
}

// P11.3: a block that is another, of messages and groups.
func TestShrunk(t *testing.T) {
	parts := func(m, g, in, z string) string {
		return `<message name="M" id="1"` + m + `><field name="a" id="1" type="uint8"/>` + z + `<group name="g" id="3"` + g + `><field name="x" id="4" type="uint8"/><group name="in" id="5"` + in + `><data name="d" id="7" type="text"/></group></group></message>`
	}
	a := load(t, whole(1, chapter, parts(` blockLength="4"`, ` blockLength="5"`, ` blockLength="6"`, "")))
	for _, r := range []struct{ what, m, g, in, z, want string }{
		{"nothing", ` blockLength="4"`, ` blockLength="5"`, ` blockLength="6"`, "", ""},
		{"a longer message", ` blockLength="5"`, ` blockLength="5"`, ` blockLength="6"`, "", "shrunk M"},
		{"a shorter message", ` blockLength="3"`, ` blockLength="5"`, ` blockLength="6"`, "", "shrunk M"},
		{"a longer group", ` blockLength="4"`, ` blockLength="6"`, ` blockLength="6"`, "", "shrunk M.g"},
		{"a shorter inner group", ` blockLength="4"`, ` blockLength="5"`, "", "", "shrunk M.g.in"},
		{"all", "", "", "", "", "shrunk M, shrunk M.g, shrunk M.g.in"},
		{"a later field behind the block", "", ` blockLength="5"`, ` blockLength="6"`, `<field name="z" id="9" type="uint8" offset="4" presence="optional" sinceVersion="2"/>`, ""},
		{"a later field inside the block", ` blockLength="4"`, ` blockLength="5"`, ` blockLength="6"`, `<field name="z" id="9" type="uint8" offset="3" presence="optional" sinceVersion="2"/>`, "shrunk M"},
		{"a later field far behind the block", "", ` blockLength="5"`, ` blockLength="6"`, `<field name="z" id="9" type="uint8" offset="5" presence="optional" sinceVersion="2"/>`, "shrunk M"},
		{"a later constant", ` blockLength="4"`, ` blockLength="5"`, ` blockLength="6"`, `<field name="z" id="9" type="Side" presence="constant" valueRef="Side.Buy" sinceVersion="2"/>`, ""},
	} {
		breaks(t, r.what, a, load(t, whole(2, chapter, parts(r.m, r.g, r.in, r.z))), r.want)
	}
}

// row is the members of a row, by words: F, K, G or D for a field, a constant, a group, data; the name; behind it the Since.
func row(words string, id int) string {
	var out strings.Builder
	for _, w := range strings.Fields(words) {
		name, since := w[1:2], ""
		if len(w) > 2 {
			since = fmt.Sprintf(` sinceVersion="%s"`, w[2:])
		}
		fmt.Fprintf(&out, map[byte]string{
			'F': `<field name="%s" id="%d" type="uint8"%s/>`, 'K': `<field name="%s" id="%d" type="Two"%s/>`, 'G': `<group name="%s" id="%d"%s/>`, 'D': `<data name="%s" id="%d" type="text"%s/>`,
		}[w[0]], name, id+int(name[0]), since)
	}
	return out.String()
}

// P11.3: rows of groups and data whose order changes, with some gone and some new, right inside a message and inside groups.
func TestRows(t *testing.T) {
	const two = `<type name="Two" primitiveType="uint8" presence="constant">2</type>`
	for _, r := range []struct{ a, b, want string }{
		{"Ga Gb Gc", "Ga Gb Gc", ""},
		{"Ga Gb Gc", "Gb Ga Gc", "moved M.a, moved M.b"},
		{"Ga Gb Gc", "Gc Ga Gb", "moved M.a, moved M.b, moved M.c"},
		{"Ga Gb Gc", "Gc Gb Ga", "moved M.a, moved M.c"},
		{"Da Db Dc Dd", "Da Dc Db Dd", "moved M.b, moved M.c"},
		{"Ga Gb Dc Dd", "Gb Ga Dd Dc", "moved M.a, moved M.b, moved M.c, moved M.d"},
		// What is gone counts for neither.
		{"Ga Gb Gc", "Gb Gc", "gone M.a"},
		{"Ga Gb Gc", "Gc", "gone M.a, gone M.b"},
		{"Ga Gb Gc", "Gc Gb", "gone M.a, moved M.b, moved M.c"},
		{"Ga Gb Gc Gd", "Gd Gb Gc", "gone M.a, moved M.b, moved M.c, moved M.d"},
		{"Ga Gb Gc Gd", "Gb Ga", "moved M.a, moved M.b, gone M.c, gone M.d"},
		// Nor what is new.
		{"Ga Gb", "Gx Ga Gb", "not-new M.x"},
		{"Ga Gb", "Ga Gx Gb Gy", "not-new M.x, not-new M.y"},
		{"Ga Gb", "Gb Gx Ga", "moved M.a, moved M.b, not-new M.x"},
		{"Ga Db", "Gx Ga Dy Db", "not-new M.x, not-new M.y"},
		{"Ga Gb Dc", "Gx Gb Dy Dc", "gone M.a, not-new M.x, not-new M.y"},
		{"Ga Db", "Ga Db Dz2", ""},
		{"Ga Gb", "Ga Gb Gy2 Dz2", ""},
		{"", "Gx Dy", "not-new M.x, not-new M.y"},
		{"", "Gx2 Dy2", ""},
		// A member of another Kind stands in the row all the same.
		{"Ga Gb Dc", "Gb Da Dc", "retyped M.a, moved M.a, moved M.b"},
		{"Ga Db Dc", "Ga Gb Dc", "retyped M.b"},
		{"Ga Gb Dc", "Gb Dc Da", "retyped M.a, moved M.a, moved M.b, moved M.c"},
		// A field stands in no row, but its path is there.
		{"Ga Gb", "Ka Gb", "retyped M.a, moved M.b"},
		{"Ga Gb", "Kb Ga", "retyped M.b, moved M.b"},
		{"Ga Db", "Kb Ga", "retyped M.b, moved M.b"},
		{"Ga Gb Gc", "Kb Ga Gc", "retyped M.b, moved M.b, moved M.c"},
		{"Ka Gb", "Ga Gb", "retyped M.a, moved M.b"},
		{"Ka Gb", "Gb Ga", "retyped M.a"},
		{"Ka Gb", "Gb Da", "retyped M.a"},
		{"Ka Kb Gc Dd", "Ga Gc Db Dd", "retyped M.a, retyped M.b, moved M.c, moved M.d"},
		{"Ka Gb", "Ka Gb", ""},
		{"Ka Kb Gc", "Kb Ka Gc", ""},
	} {
		breaks(t, r.a+" to "+r.b, ofVersion(t, 1, two, row(r.a, 0)), ofVersion(t, 2, two, row(r.b, 0)), r.want)
		if strings.Contains(r.b, "2") {
			continue
		}
		inside := func(row string) string {
			return `<group name="g" id="1"><group name="h" id="2">` + row + `</group></group>`
		}
		want := strings.ReplaceAll(r.want, "M.", "M.g.h.")
		breaks(t, "inside: "+r.a+" to "+r.b, ofVersion(t, 1, two, inside(row(r.a, 0))), ofVersion(t, 2, two, inside(row(r.b, 0))), want)
	}
	// Each row by itself: what stands in one is no matter to another.
	rows := func(v int, m, g, h, n string) api.Schema {
		return load(t, whole(v, chapter+two, inM(`<group name="g" id="1">`+row(g, 1000)+`</group><group name="h" id="2">`+row(h, 2000)+`</group>`+row(m, 3000))+`<message name="N" id="2">`+row(n, 4000)+`</message>`))
	}
	a := rows(1, "Ga Gb Dc", "Ga Gb Dc", "Ga Db", "Ga Gb Dc")
	breaks(t, "the message's row", a, rows(2, "Gb Ga Dc", "Ga Gb Dc", "Ga Db", "Ga Gb Dc"), "moved M.a, moved M.b")
	breaks(t, "a group's row", a, rows(2, "Ga Gb Dc", "Gb Ga Dc", "Ga Db", "Ga Gb Dc"), "moved M.g.a, moved M.g.b")
	breaks(t, "the other group's row", a, rows(2, "Ga Gb Dc", "Ga Gb Dc", "Dc Db", "Ga Gb Dc"), "gone M.h.a, not-new M.h.c")
	breaks(t, "another message's row", a, rows(2, "Ga Gb Dc", "Ga Gb Dc", "Ga Db", "Gb Ga Dc"), "moved N.a, moved N.b")
	breaks(t, "all rows", a, rows(2, "Gb Ga Dc", "Gb Ga Dc", "Gb Da", "Gb Ga Dc"), "moved M.g.a, moved M.g.b, retyped M.h.a, moved M.h.a, retyped M.h.b, moved M.h.b, moved M.a, moved M.b, moved N.a, moved N.b")
}

// simple is a type of so many elements.
func simple(depth int, name string, p api.Prim, length int) api.TypeNode {
	return api.TypeNode{Depth: depth, Kind: api.TypeSimple, Name: name, Prim: p, Length: length, Size: length * prim.Size(p), Null: prim.Null(p), Min: prim.Min(p), Max: prim.Max(p)}
}

func fixed(depth int, name string, p api.Prim, words ...uint64) api.TypeNode {
	n := simple(depth, name, p, len(words))
	n.Presence, n.Size, n.Const = api.Constant, 0, words
	return n
}

func enum(depth int, name string, p api.Prim, values ...api.Named) api.TypeNode {
	n := simple(depth, name, p, 1)
	n.Kind, n.Values = api.TypeEnum, values
	return n
}

func set(depth int, name string, p api.Prim, values ...api.Named) api.TypeNode {
	n := enum(depth, name, p, values...)
	n.Kind, n.Null = api.TypeSet, 0
	return n
}

func composite(depth int, name string, size int) api.TypeNode {
	return api.TypeNode{Depth: depth, Kind: api.TypeComposite, Name: name, Size: size}
}

// fieldOf is a schema of one field of a type that these nodes are.
func fieldOf(t testing.TB, v int, ns ...api.TypeNode) api.Schema {
	t.Helper()
	s := copied(load(t, whole(v, header, inM(`<field name="f" id="1" type="uint8"/>`))))
	i, f := len(s.Types), &s.Parts[1]
	s.Types = append(s.Types, ns...)
	f.Type, f.Size, s.Parts[0].Block = i, ns[0].Size, ns[0].Size
	if ns[0].Presence == api.Constant {
		f.Presence, f.Const = api.Constant, ns[0].Const
	}
	if e, n := schema.Valid(s); e != api.OK {
		t.Fatalf("%+v: error %d, %d", ns, e, n)
	}
	return s
}

// deeper is a type as a member, between two others, of a composite, which is one of another, and so on, so many times.
func deeper(ns []api.TypeNode, times int) []api.TypeNode {
	out := slices.Clone(ns)
	for i := range out {
		out[i].Const, out[i].Values = slices.Clone(out[i].Const), slices.Clone(out[i].Values)
	}
	for k := range times {
		for i := range out {
			out[i].Depth++
		}
		if out[0].Size > 0 {
			out[0].Offset = 4
		}
		first, last := simple(2, "first", api.Uint32, 1), simple(2, "last", api.Uint8, 1)
		last.Offset = 100 * (k + 1) // so far behind that it stays where it is
		out = slices.Concat([]api.TypeNode{composite(1, "Holder", last.Offset+1), first}, out, []api.TypeNode{last})
	}
	return out
}

// P11.3: types that differ in one thing, at each depth; a type's own name is none.
func TestTypesThatDiffer(t *testing.T) {
	zeros := func(n api.TypeNode) api.TypeNode { n.Null, n.Min, n.Max = 0, 0, 0; return n }
	put := func(n api.TypeNode, turn func(n *api.TypeNode)) api.TypeNode { turn(&n); return n }
	u8 := simple(1, "T", api.Uint8, 1)
	buy, sell, hold := api.Named{Name: "Buy", Value: 1}, api.Named{Name: "Sell", Value: 2, Since: 1}, api.Named{Name: "Hold", Value: 3}
	list := func(ns ...api.TypeNode) []api.TypeNode { return ns }
	at := func(offset int, n api.TypeNode) api.TypeNode { n.Offset = offset; return n }
	for _, r := range []struct {
		what string
		a, b []api.TypeNode
		same bool
	}{
		{"nothing", list(u8), list(u8), true},
		{"Kind: simple and enum", list(u8), list(enum(1, "T", api.Uint8)), false},
		{"Kind: enum and set", list(put(enum(1, "T", api.Uint8), func(n *api.TypeNode) { n.Null = 0 })), list(set(1, "T", api.Uint8)), false},
		{"Prim: uint8 and char", list(zeros(u8)), list(zeros(simple(1, "T", api.Char, 1))), false},
		{"Prim: uint8 and int8", list(zeros(u8)), list(zeros(simple(1, "T", api.Int8, 1))), false},
		{"Prim: of an enum", list(zeros(enum(1, "T", api.Int16))), list(zeros(enum(1, "T", api.Uint16))), false},
		{"Prim: float and uint32", list(zeros(simple(1, "T", api.Float, 1))), list(zeros(simple(1, "T", api.Uint32, 1))), false},
		{"Length", list(u8), list(simple(1, "T", api.Uint8, 2)), false},
		{"Length and Prim, the Size the same", list(zeros(simple(1, "T", api.Uint16, 2))), list(zeros(simple(1, "T", api.Uint8, 4))), false},
		{"Presence", list(u8), list(put(u8, func(n *api.TypeNode) { n.Presence = api.Optional })), false},
		{"Null", list(u8), list(put(u8, func(n *api.TypeNode) { n.Null = 7 })), false},
		{"Min", list(u8), list(put(u8, func(n *api.TypeNode) { n.Min = 7 })), false},
		{"Max", list(u8), list(put(u8, func(n *api.TypeNode) { n.Max = 7 })), false},
		{"Null of an enum", list(enum(1, "T", api.Int64, buy)), list(put(enum(1, "T", api.Int64, buy), func(n *api.TypeNode) { n.Null = 7 })), false},
		{"Min of an enum", list(enum(1, "T", api.Int64, buy)), list(put(enum(1, "T", api.Int64, buy), func(n *api.TypeNode) { n.Min = 7 })), false},
		{"Max of a set", list(set(1, "T", api.Uint64)), list(put(set(1, "T", api.Uint64), func(n *api.TypeNode) { n.Max = 7 })), false},
		{"Const, nothing", list(fixed(1, "T", api.Int8, 1, 2)), list(fixed(1, "T", api.Int8, 1, 2)), true},
		{"Const, a word", list(fixed(1, "T", api.Int8, 1, 2)), list(fixed(1, "T", api.Int8, 1, 3)), false},
		{"Const, one more", list(fixed(1, "T", api.Int8, 1, 2)), list(fixed(1, "T", api.Int8, 1, 2, 3)), false},
		{"Name of the type", list(u8), list(put(u8, func(n *api.TypeNode) { n.Name = "Other" })), true},

		{"Values, none", list(enum(1, "T", api.Uint8)), list(enum(1, "T", api.Uint8, buy)), true},
		{"Values, the same", list(enum(1, "T", api.Uint8, buy, sell)), list(enum(1, "T", api.Uint8, buy, sell)), true},
		{"Values, more", list(enum(1, "T", api.Uint8, buy, sell)), list(enum(1, "T", api.Uint8, hold, buy, sell)), true},
		{"Values, another order", list(enum(1, "T", api.Uint8, buy, sell)), list(enum(1, "T", api.Uint8, sell, buy)), true},
		{"Values, fewer", list(enum(1, "T", api.Uint8, buy, sell)), list(enum(1, "T", api.Uint8, sell)), false},
		{"Values, as many", list(enum(1, "T", api.Uint8, buy, sell)), list(enum(1, "T", api.Uint8, sell, hold)), false},
		{"Values, none left", list(enum(1, "T", api.Uint8, buy)), list(enum(1, "T", api.Uint8)), false},
		{"Values, a name", list(enum(1, "T", api.Uint8, buy)), list(enum(1, "T", api.Uint8, api.Named{Name: "buy", Value: 1})), false},
		{"Values, a value", list(enum(1, "T", api.Uint8, buy)), list(enum(1, "T", api.Uint8, api.Named{Name: "Buy", Value: 2})), false},
		{"Values, a Since", list(enum(1, "T", api.Uint8, sell)), list(enum(1, "T", api.Uint8, api.Named{Name: "Sell", Value: 2})), false},
		{"Values, a Since that is new", list(enum(1, "T", api.Uint8, sell)), list(enum(1, "T", api.Uint8, api.Named{Name: "Sell", Value: 2, Since: 2})), false},
		{"bits, more and in another order", list(set(1, "T", api.Uint32, buy, sell)), list(set(1, "T", api.Uint32, sell, hold, buy)), true},
		{"bits, fewer", list(set(1, "T", api.Uint32, buy, sell)), list(set(1, "T", api.Uint32, buy)), false},

		{"members, nothing", list(composite(1, "T", 1), simple(2, "a", api.Uint8, 1)), list(composite(1, "U", 1), simple(2, "a", api.Uint8, 1)), true},
		{"a member's name", list(composite(1, "T", 1), simple(2, "a", api.Uint8, 1)), list(composite(1, "T", 1), simple(2, "b", api.Uint8, 1)), false},
		{"a member's Offset", list(composite(1, "T", 9), at(2, simple(2, "a", api.Uint8, 1)), at(8, simple(2, "b", api.Uint8, 1))), list(composite(1, "T", 9), at(3, simple(2, "a", api.Uint8, 1)), at(8, simple(2, "b", api.Uint8, 1))), false},
		{"members in another order", list(composite(1, "T", 2), simple(2, "a", api.Uint8, 1), at(1, simple(2, "b", api.Uint8, 1))), list(composite(1, "T", 2), simple(2, "b", api.Uint8, 1), at(1, simple(2, "a", api.Uint8, 1))), false},
		{"a member more, without bytes", list(composite(1, "T", 1), simple(2, "a", api.Uint8, 1)), list(composite(1, "T", 1), simple(2, "a", api.Uint8, 1), fixed(2, "b", api.Uint8, 1)), false},
		{"a member fewer, without bytes", list(composite(1, "T", 1), simple(2, "a", api.Uint8, 1), fixed(2, "b", api.Uint8, 1)), list(composite(1, "T", 1), simple(2, "a", api.Uint8, 1)), false},
		{"a composite and its one member", list(composite(1, "T", 1), simple(2, "a", api.Uint8, 1)), list(u8), false},
		{"a member's Depth", list(composite(1, "T", 0), composite(2, "in", 0), fixed(3, "k", api.Uint8, 1)), list(composite(1, "T", 0), composite(2, "in", 0), fixed(2, "k", api.Uint8, 1)), false},
		{"a member's values, more", list(composite(1, "T", 1), enum(2, "a", api.Uint8, buy)), list(composite(1, "T", 1), enum(2, "a", api.Uint8, hold, buy)), true},
		{"a member's values, those of another one", list(composite(1, "T", 2), enum(2, "a", api.Uint8, buy), at(1, enum(2, "b", api.Uint8, sell))), list(composite(1, "T", 2), enum(2, "a", api.Uint8, sell), at(1, enum(2, "b", api.Uint8, buy))), false},
		{"the last member's null", list(composite(1, "T", 2), enum(2, "a", api.Uint8, buy), at(1, simple(2, "b", api.Uint8, 1))), list(composite(1, "T", 2), enum(2, "a", api.Uint8, buy), at(1, put(simple(2, "b", api.Uint8, 1), func(n *api.TypeNode) { n.Null = 5 }))), false},
	} {
		for times := range 4 {
			a, b := fieldOf(t, 1, deeper(r.a, times)...), fieldOf(t, 2, deeper(r.b, times)...)
			want := "retyped M.f"
			// Deeper the type is a member, whose own name is looked at.
			if r.same && (times == 0 || r.a[0].Name == r.b[0].Name) {
				want = ""
			}
			if a.Parts[0].Block != b.Parts[0].Block {
				want = "shrunk M, " + want
			}
			breaks(t, fmt.Sprintf("%s, %d deeper", r.what, times), a, b, want)
		}
	}
}

// P11.3: what stands behind a type isn't looked at, nor other types.
func TestTypesBeside(t *testing.T) {
	a := fieldOf(t, 1, composite(1, "T", 1), simple(2, "a", api.Uint8, 1), simple(1, "Beside", api.Uint8, 1))
	b := fieldOf(t, 2, composite(1, "T", 1), simple(2, "a", api.Uint8, 1), simple(1, "Beside", api.Double, 1), simple(1, "More", api.Double, 1))
	breaks(t, "a type that no part has", a, b, "")
	b = turned(t, b, func(s *api.Schema) { s.Types = s.Types[:len(s.Types)-2] })
	breaks(t, "a type at the end", a, b, "")
	// The types stand at other places, and a place has another type.
	const more = `<type name="T" primitiveType="uint8"/><type name="U" primitiveType="int16"/>`
	const turnedRound = `<type name="U" primitiveType="int16"/><type name="T" primitiveType="uint8"/>`
	const fields = `<field name="t" id="1" type="T"/><field name="u" id="2" type="U"/><field name="v" id="3" type="T"/>`
	breaks(t, "other places", ofVersion(t, 1, more, fields), ofVersion(t, 2, turnedRound, fields), "")
	const names = `<type name="U" primitiveType="uint8"/><type name="T" primitiveType="int16"/>`
	breaks(t, "the types' names in each other's place", ofVersion(t, 1, more, fields), ofVersion(t, 2, names, fields), "shrunk M, retyped M.t, retyped M.u, moved M.u, retyped M.v")
}

// P11.3: all reasons at once, in their order: the part's first, Retyped ahead of Moved ahead of Shrunk; what is new at the end.
func TestAllAtOnce(t *testing.T) {
	a := load(t, whole(1, chapter, inM(`<field name="a" id="1" type="uint8"/><field name="b" id="2" type="uint8"/><group name="g" id="3"><field name="x" id="4" type="uint8"/></group><group name="h" id="5"><field name="x" id="6" type="uint8"/></group><data name="d" id="7" type="text"/>`)+`<message name="N" id="2"/>`))
	b := load(t, strings.Replace(whole(2, chapter, `<message name="New" id="3"><group name="g" id="1"/></message>`+`<message name="M" id="9" sinceVersion="1"><field name="z" id="8" type="uint8" sinceVersion="1"/><field name="a" id="10" type="int8" sinceVersion="1"/><group name="h" id="15" sinceVersion="1"><field name="x" id="16" type="uint16" sinceVersion="1"/><field name="y" id="17" type="uint8" sinceVersion="1"/></group><group name="g" id="3" sinceVersion="1"/><group name="d" id="7" blockLength="9" sinceVersion="1"/><data name="e" id="18" type="text" sinceVersion="1"/></message>`), `package="p"`, `package="q"`, 1))
	breaks(t, "all", a, b, "other, retyped M, moved M, retyped M.a, moved M.a, gone M.b, moved M.g, shrunk M.g, gone M.g.x, retyped M.h, moved M.h, shrunk M.h, retyped M.h.x, moved M.h.x, retyped M.d, moved M.d, shrunk M.d, gone N, not-new New, not-new New.g, not-new M.z, not-new M.h.y, not-new M.e")
}

// P11.3: a part's fellow is found by its whole path, not by its name.
func TestPathsNotNames(t *testing.T) {
	a := load(t, whole(1, chapter, inM(`<field name="x" id="1" type="uint8"/><group name="g" id="2"><field name="x" id="3" type="uint16"/></group><group name="h" id="4"><field name="x" id="5" type="uint32"/></group>`)+`<message name="x" id="2"><group name="M" id="1"><field name="x" id="2" type="uint8"/></group></message>`))
	breaks(t, "many of one name", a, turned(t, a, version(2)), "")
	breaks(t, "h's", a, turned(t, a, version(2), func(s *api.Schema) { s.Parts[part(t, *s, "M.h.x")].ID = 99 }), "retyped M.h.x")
	breaks(t, "x.M's", a, turned(t, a, version(2), func(s *api.Schema) { s.Parts[part(t, *s, "x.M.x")].ID = 99 }), "retyped x.M.x")
	breaks(t, "gone from g alone", a, turned(t, a, version(2), func(s *api.Schema) { i := part(t, *s, "M.g.x"); s.Parts = slices.Delete(s.Parts, i, i+1) }), "gone M.g.x")
}
