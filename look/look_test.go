package look_test

import (
	"encoding/hex"
	"strings"
	"testing"

	"stencil/api"
	"stencil/ir"
	"stencil/look"
	"stencil/schema"
)

// The chapter's example 1.
func TestExampleGet(t *testing.T) {
	f := made(t, chapter)
	for said, want := range map[string]api.Told{
		"a": {Words: []uint64{9}}, "b": {Words: []uint64{1<<64 - 2}}, "c": {Words: []uint64{65535}},
		"g": {Count: 1}, "g[0].x": {Words: []uint64{4}}, "d": {Text: "hi"}, "n": {},
	} {
		if got, e := look.Get(f, []byte(sample), 0, steps(said)); e != ok || !sameTold(got, want) {
			t.Errorf("P21.1: Get of %s = %v, %v; want %v", said, got, e, want)
		}
	}
}

// The chapter's example 2.
func TestExampleWhere(t *testing.T) {
	f := made(t, chapter)
	for said, want := range map[string]api.Span{
		"a": {From: 8, To: 9, Kind: api.SpanField}, "b": {From: 9, To: 11, Kind: api.SpanField}, "g": {From: 11, To: 14, Kind: api.SpanDim},
		"g[0].x": {From: 14, To: 15, Kind: api.SpanField}, "d": {From: 16, To: 18, Kind: api.SpanData},
	} {
		want.Path = steps(said)
		if got, e := look.Where(f, []byte(sample), 0, steps(said)); e != ok || !sameSpan(got, want) {
			t.Errorf("P21.2: Where of %s = %v, %v; want %v", said, got, e, want)
		}
	}
	for _, said := range []string{"c", "n"} {
		if got, e := look.Where(f, []byte(sample), 0, steps(said)); e != api.ErrPath || !sameSpan(got, api.Span{}) {
			t.Errorf("P21.2: Where of %s = %v, %v", said, got, e)
		}
	}
}

// The chapter's example 3.
func TestExampleNoPath(t *testing.T) {
	f := made(t, chapter)
	refuse(t, "no step", f, []byte(sample), 0, nil, nil, api.ErrPath)
	for _, said := range []string{"z", "a[0]", "g[0]", "g.x", "a.x", "g[0].y", "g[1].x"} {
		refuse(t, "example 3", f, []byte(sample), 0, steps(said), []uint64{1}, api.ErrPath)
	}
	f.Tokens[4].Offset = 0
	refuse(t, "a form spoilt", f, []byte(sample), 0, steps("a"), []uint64{1}, api.ErrTokens)
}

// The chapter's example 4.
func TestExampleCut(t *testing.T) {
	f := made(t, chapter)
	c := sceneOf(t, f, []byte(sample[:17]), 0)
	c.wants(ok, "g[0].x")
	if got, e := look.Get(f, []byte(sample[:17]), 0, steps("g[0].x")); e != ok || !sameTold(got, api.Told{Words: []uint64{4}}) {
		t.Errorf("P21.1: Get of x = %v, %v", got, e)
	}
	c.wants(api.ErrShort, "d", "n")
	others := []byte(strings.Repeat("?", 17))
	refuse(t, "17 other bytes", f, others, 0, steps("a"), []uint64{1}, api.ErrSchemaID)
	refuse(t, "the end", f, []byte(sample), 18, steps("a"), []uint64{1}, api.ErrShort)
	refuse(t, "17 other bytes and no path", f, others, 0, steps("z"), nil, api.ErrPath)
	refuse(t, "the end and no path", f, []byte(sample), 18, steps("z"), nil, api.ErrPath)
}

// The chapter's example 5.
func TestExampleSet(t *testing.T) {
	f := made(t, chapter)
	b := []byte(sample)
	if e := look.Set(f, b, 0, steps("b"), []uint64{5}); e != ok || string(b) != sample[:9]+"\x05\x00"+sample[11:] {
		t.Errorf("P21.3: Set of b = %v: %q", e, b)
	}
	for _, x := range []struct {
		said  string
		words []uint64
		want  api.Errno
	}{
		{"a", []uint64{256}, api.ErrFit}, {"a", []uint64{}, api.ErrWords}, {"c", []uint64{1}, api.ErrPath}, {"g", []uint64{1}, api.ErrPath}, {"d", []uint64{1}, api.ErrPath},
	} {
		b := []byte(sample)
		if e := look.Set(f, b, 0, steps(x.said), x.words); e != x.want || string(b) != sample {
			t.Errorf("P21.3: Set of %s = %v, not %v: %q", x.said, e, x.want, b)
		}
	}
}

// shop is the schema of the document's ten examples.
const shop = `<sbe:messageSchema xmlns:sbe="http://x" package="shop" id="9" version="1">
<types>
<composite name="messageHeader"><type name="blockLength" primitiveType="uint16"/><type name="templateId" primitiveType="uint16"/><type name="schemaId" primitiveType="uint16"/><type name="version" primitiveType="uint16"/></composite>
<composite name="groupSizeEncoding"><type name="blockLength" primitiveType="uint16"/><type name="numInGroup" primitiveType="uint8"/></composite>
<composite name="str"><type name="length" primitiveType="uint8"/><type name="varData" primitiveType="char" length="0"/></composite>
<enum name="Side" encodingType="uint8"><validValue name="Buy">1</validValue><validValue name="Sell">2</validValue></enum>
</types>
<sbe:message name="Order" id="1">
<field name="num" id="1" type="uint32"/><field name="side" id="2" type="Side"/><field name="tip" id="3" type="int16" presence="optional" sinceVersion="1"/>
<group name="legs" id="4"><field name="qty" id="5" type="uint16"/></group>
<data name="note" id="6" type="str"/>
</sbe:message>
</sbe:messageSchema>`

// The document's example 6: an order of a schema that was loaded, looked at in both versions.
func TestShop(t *testing.T) {
	s, err, _ := schema.Load(shop)
	if err != ok {
		t.Fatal(err)
	}
	f, err := ir.Compile(s, schema.Message(s, "Order"))
	if err != ok {
		t.Fatal(err)
	}
	for i, said := range []string{
		"0500010009000000" + "02010000" + "02" + "020002" + "0300" + "0400" + "02" + "6869",
		"0700010009000100" + "02010000" + "02" + "0080" + "020002" + "0300" + "0400" + "02" + "6869",
	} {
		b, _ := hex.DecodeString(said)
		for said, want := range map[string]api.Told{
			"num": {Words: []uint64{258}}, "side": {Words: []uint64{2}}, "tip": {Words: []uint64{1<<64 - 32768}},
			"legs": {Count: 2}, "legs[0].qty": {Words: []uint64{3}}, "legs[1].qty": {Words: []uint64{4}}, "note": {Text: "hi"},
		} {
			if got, e := look.Get(f, b, 0, steps(said)); e != ok || !sameTold(got, want) {
				t.Errorf("P21.1: Get of %s = %v, %v; want %v", said, got, e, want)
			}
		}
		refuse(t, "an order", f, b, 0, steps("legs[2].qty"), []uint64{1}, api.ErrPath)
		if got, e := look.Where(f, b, 0, steps("legs[1].qty")); e != ok || got.From != 18+2*i || got.To != 20+2*i {
			t.Errorf("P21.2: Where of qty = %v, %v", got, e)
		}
		sceneOf(t, f, b, 0).every(4)
		must := with(b, 18+2*i, 0x34, 0x12)
		if e := look.Set(f, b, 0, steps("legs[1].qty"), []uint64{0x1234}); e != ok || string(b) != string(must) {
			t.Errorf("P21.3: Set of qty = %v: %x", e, b)
		}
	}
}
