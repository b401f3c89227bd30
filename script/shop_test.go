package script_test

import (
	"encoding/hex"
	"strings"
	"testing"

	"stencil/ir"
	"stencil/project"
	"stencil/schema"
)

// shop is the schema of the document's ten examples.
const shop = `<sbe:messageSchema xmlns:sbe="http://x" package="shop" id="9" version="1">
<types>
<composite name="messageHeader"><type name="blockLength" primitiveType="uint16"/><type name="templateId" primitiveType="uint16"/><type name="schemaId" primitiveType="uint16"/><type name="version" primitiveType="uint16"/></composite>
<composite name="groupSizeEncoding"><type name="blockLength" primitiveType="uint16"/><type name="numInGroup" primitiveType="uint8"/></composite>
<composite name="str"><type name="length" primitiveType="uint8"/><type name="varData" primitiveType="char" length="0"/></composite>
<enum name="Side" encodingType="uint8"><validValue name="Buy">1</validValue><validValue name="Sell">2</validValue></enum>
</types>
<sbe:message name="Order" id="1">
<field name="num" id="1" type="uint32"/><field name="side" id="2" type="Side"/><field name="tip" id="3" type="int16" presence="optional" sinceVersion="1"/>
<group name="legs" id="4"><field name="qty" id="5" type="uint16"/></group>
<data name="note" id="6" type="str"/>
</sbe:message>
</sbe:messageSchema>`

// P0.5: the document's second, third, fourth and tenth examples, as scripts.
func TestShop(t *testing.T) {
	s, err, _ := schema.Load(shop)
	if err != ok {
		t.Fatal(err)
	}
	f, err := ir.Compile(s, schema.Message(s, "Order"))
	if err != ok {
		t.Fatal(err)
	}
	old, err := project.At(f, 0)
	if err != ok {
		t.Fatal(err)
	}
	const (
		order0 = "0500010009000000" + "02010000" + "02" + "020002" + "0300" + "0400" + "02" + "6869"
		order1 = "0700010009000100" + "02010000" + "02" + "0080" + "020002" + "0300" + "0400" + "02" + "6869"
		lines  = "field side 2\nfield num 258\ndata note \"hi\"\ngroup legs 2\nfield num 1\nnext\nfield qty 3\nnext\nfield qty 4\nnext\ndata note \"hi\"\n"
	)
	b := writes(t, f, 25, 0, "field tip 0xFFFFFFFFFFFF8000\n"+lines, "ok 15\nok 15\nok 15\nok 15\n! E140\nok 18\n! E140\nok 20\nok 20\nok 22\nok 22\n! E140\nok 25\ndone")
	if got := hex.EncodeToString([]byte(b)); got != order1 {
		t.Errorf("the bytes are %s", got)
	}
	b = writes(t, old, 23, 0, "field tip 0xFFFFFFFFFFFF8000\n"+lines, "ok 13\n! E140\nok 13\nok 13\n! E140\nok 16\n! E140\nok 18\nok 18\nok 20\nok 20\n! E140\nok 23\ndone")
	if got := hex.EncodeToString([]byte(b)); got != order0 {
		t.Errorf("the bytes are %s", got)
	}
	const seen = "= 2\n= 258\n! E140\n= 2\n! E140\nok\n= 3\nok\n= 4\n! E140\n= \"hi\"\ndone"
	for acting, bytes := range []string{order0, order1} {
		raw, _ := hex.DecodeString(bytes)
		reads(t, f, 0, string(raw), 0, lines, "ok "+string(rune('0'+acting))+"\n"+seen)
		reads(t, f, 1, string(raw), 0, "field tip\n"+lines, "ok "+string(rune('0'+acting))+"\n= 18446744073709518848\n"+seen)
		reads(t, f, 1, strings.Repeat("x", 5)+string(raw), 5, lines, "ok "+string(rune('0'+acting))+"\n"+seen)
	}
}
