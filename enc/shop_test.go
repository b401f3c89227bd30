package enc_test

import (
	"encoding/hex"
	"testing"

	"stencil/api"
	"stencil/ir"
	"stencil/project"
	"stencil/schema"
)

// shop is the schema of the document's ten examples.
const shop = `<sbe:messageSchema xmlns:sbe="http://x" package="shop" id="9" version="1">
<types>
<composite name="messageHeader"><type name="blockLength" primitiveType="uint16"/><type name="templateId" primitiveType="uint16"/><type name="schemaId" primitiveType="uint16"/><type name="version" primitiveType="uint16"/></composite>
<composite name="groupSizeEncoding"><type name="blockLength" primitiveType="uint16"/><type name="numInGroup" primitiveType="uint8"/></composite>
<composite name="str"><type name="length" primitiveType="uint8"/><type name="varData" primitiveType="char" length="0"/></composite>
<enum name="Side" encodingType="uint8"><validValue name="Buy">1</validValue><validValue name="Sell">2</validValue></enum>
</types>
<sbe:message name="Order" id="1">
<field name="num" id="1" type="uint32"/><field name="side" id="2" type="Side"/><field name="tip" id="3" type="int16" presence="optional" sinceVersion="1"/>
<group name="legs" id="4"><field name="qty" id="5" type="uint16"/></group>
<data name="note" id="6" type="str"/>
</sbe:message>
</sbe:messageSchema>`

// P0.5: the document's tenth example, whose bytes are the second one's; and at version 0 the third one's.
func TestShop(t *testing.T) {
	s, err, _ := schema.Load(shop)
	if err != ok {
		t.Fatal(err)
	}
	f, err := ir.Compile(s, schema.Message(s, "Order"))
	if err != ok {
		t.Fatal(err)
	}
	for version, must := range []string{"0500010009000000" + "02010000" + "02" + "020002" + "0300" + "0400" + "02" + "6869", "0700010009000100" + "02010000" + "02" + "0080" + "020002" + "0300" + "0400" + "02" + "6869"} {
		g, err := project.At(f, version)
		if err != ok {
			t.Fatal(err)
		}
		w := wrapped(t, g, 40, 6)
		if version == 1 {
			w.all(field("tip", 1<<64-1<<15))
		} else {
			w.refuse(field("tip", 1), api.ErrOrder)
		}
		w.all(field("side", 2), field("num", 258))
		w.refuse(data("note", "hi"), api.ErrOrder)
		w.all(group("legs", 2))
		w.refuse(field("num", 1), api.ErrOrder)
		w.all(next(), field("qty", 3), next(), field("qty", 4))
		w.refuse(next(), api.ErrOrder)
		w.all(data("note", "hi"))
		want(t, "Done", w.e.Done(), true)
		want(t, "the message", hex.EncodeToString(w.memories[0].buffer()[6:w.e.End()]), must)
	}
}

// P18.2, P18.3: at an earlier version blocks are shorter than they weigh.
func TestShopWeighs(t *testing.T) {
	s, _, _ := schema.Load(shop)
	f, _ := ir.Compile(s, schema.Message(s, "Order"))
	g, err := project.At(f, 0)
	if err != ok || g.Tokens[0].Block != 5 || g.Tokens[0].Full != 7 {
		t.Fatalf("the form at 0: %v, %+v", err, g.Tokens[0])
	}
	w := newTwin(t, g)
	w.must(api.ErrShort, w.wrap(w.buffer(12), 0), "Wrap")
	w.must(ok, w.wrap(w.buffer(13), 0), "Wrap")
}
