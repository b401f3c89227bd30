package dec_test

import (
	"encoding/hex"
	"testing"

	"stencil/api"
	"stencil/ir"
	"stencil/schema"
)

// shop is the schema of the document's ten examples.
const shop = `<sbe:messageSchema xmlns:sbe="http://x" package="shop" id="9" version="1">
<types>
<composite name="messageHeader"><type name="blockLength" primitiveType="uint16"/><type name="templateId" primitiveType="uint16"/><type name="schemaId" primitiveType="uint16"/><type name="version" primitiveType="uint16"/></composite>
<composite name="groupSizeEncoding"><type name="blockLength" primitiveType="uint16"/><type name="numInGroup" primitiveType="uint8"/></composite>
<composite name="str"><type name="length" primitiveType="uint8"/><type name="varData" primitiveType="char" length="0"/></composite>
<enum name="Side" encodingType="uint8"><validValue name="Buy">1</validValue><validValue name="Sell">2</validValue></enum>
</types>
<sbe:message name="Order" id="1">
<field name="num" id="1" type="uint32"/><field name="side" id="2" type="Side"/><field name="tip" id="3" type="int16" presence="optional" sinceVersion="1"/>
<group name="legs" id="4"><field name="qty" id="5" type="uint16"/></group>
<data name="note" id="6" type="str"/>
</sbe:message>
</sbe:messageSchema>`

func order(t *testing.T) api.Form {
	t.Helper()
	s, err, _ := schema.Load(shop)
	if err != ok {
		t.Fatal(err)
	}
	f, err := ir.Compile(s, schema.Message(s, "Order"))
	if err != ok {
		t.Fatal(err)
	}
	return f
}

func unhex(t *testing.T, s string) []byte {
	t.Helper()
	b, err := hex.DecodeString(s)
	if err != nil {
		t.Fatal(err)
	}
	return b
}

const (
	order0 = "0500010009000000" + "02010000" + "02" + "020002" + "0300" + "0400" + "02" + "6869"
	order1 = "0700010009000100" + "02010000" + "02" + "0080" + "020002" + "0300" + "0400" + "02" + "6869"
)

// P0.3, P0.4: the document's fourth example: the bytes of both versions, for readers of both.
func TestShop(t *testing.T) {
	f := order(t)
	for acting, s := range []string{order0, order1} {
		b := unhex(t, s)
		for reader := range 2 {
			w := wrapped(t, f, reader, 6, b)
			w.tells("num", 258)
			w.tells("side", 2)
			if reader == 1 {
				w.tells("tip", 1<<64-1<<15)
			} else {
				w.refuse(field("tip"), api.ErrOrder)
			}
			w.refuse(data("note"), api.ErrOrder)
			w.counts("legs", 2)
			w.refuse(field("num"), api.ErrOrder)
			w.all(next())
			w.tells("qty", 3)
			w.all(next())
			w.tells("qty", 4)
			w.refuse(next(), api.ErrOrder)
			w.says("note", "hi")
			want(t, "Done", w.d.Done(), true)
			want(t, "Acting", w.d.Acting(), acting)
			want(t, "End", w.d.End(), 6+[]int{23, 25}[acting])
		}
	}
}

// The document's eighth example.
func TestShopRefused(t *testing.T) {
	f := order(t)
	b := unhex(t, order1)
	w := wrapped(t, f, 1, 0, b[:24])
	w.must(api.ErrShort, w.skip(), "Skip without the last byte")
	w.must(api.ErrBlock, w.wrap(w.buffer(0, with(b, 0, 6)), 0), "Wrap with the first byte 6")
	w.must(api.ErrActing, w.wrap(w.buffer(0, with(b, 6, 2)), 0), "Wrap with the version 2")
}
