package words_test

import (
	"testing"

	"stencil/api"
	"stencil/ir"
	"stencil/schema"
	"stencil/words"
)

// The chapter's example 1.
func TestExamplePrint(t *testing.T) {
	f := made(t, chapter)
	if s, e := words.Print(f, tree(chapterTree)); e != ok || s != chapterText {
		t.Errorf("P23.1: %s, %v", s, e)
	}
	is(t, f, tree(chapterTree), chapterText)
}

// The chapter's example 2.
func TestExampleParse(t *testing.T) {
	f := made(t, chapter)
	refuse(t, f, `{ d : "hi" , a:7}`, api.ErrSyntax, 11)
	says(t, f, `{d:"hi" g:[{x:1} {x:null}] p:5;6 k:Sell c:"ab\x00" b:-1,2 a:7}`, chapterText)
	says(t, f, "\n{ b :\t-1 , 2\r\n\r\na: 7 c :\"a\\x62\\x00\"k:Sell p:5\n;\n6 d:\"hi\"\tg:[\n {x:1}\n {x:null}\n]\n} ", chapterText)
}

// The chapter's example 3.
func TestExampleNull(t *testing.T) {
	f := made(t, chapter)
	is(t, f, tree("M a=255 b=-32768,-32768 c=0,0,0 k=255 p=-2147483648,255 g{ } d$"), chapterNull)
	says(t, f, "{}", chapterNull)
	says(t, f, "{k:3}", `{a:null b:null c:null k:3 p:null g:[] d:""}`)
	says(t, f, "{k:255}", chapterNull)
}

// The chapter's example 4.
func TestExampleFaults(t *testing.T) {
	f := made(t, chapter)
	for _, c := range []struct {
		s   string
		err api.Errno
		at  int
	}{
		{"", api.ErrSyntax, 0},
		{"{", api.ErrSyntax, 1},
		{"{a}", api.ErrSyntax, 2},
		{"{z:1}", api.ErrSyntax, 1},
		{"{a:1 a:1}", api.ErrSyntax, 5},
		{"{a:256}", api.ErrTooBig, 3},
		{"{a:1x}", api.ErrNumber, 4},
		{"{a:}", api.ErrSyntax, 3},
		{"{a:1,2}", api.ErrWords, 4},
		{"{b:1}", api.ErrWords, 4},
		{"{b:1;2}", api.ErrWords, 4},
		{"{p:1,2}", api.ErrWords, 4},
		{"{p:1;2;3}", api.ErrWords, 6},
		{`{c:"ab"}`, api.ErrWords, 3},
		{"{c:abc}", api.ErrSyntax, 3},
		{"{g:{}}", api.ErrSyntax, 3},
		{"{g:[{x:1}]} x", api.ErrSyntax, 12},
		{"{d:hi}", api.ErrSyntax, 3},
	} {
		refuse(t, f, c.s, c.err, c.at)
	}
}

// shop is the schema of the document's ten examples.
const shop = `<sbe:messageSchema xmlns:sbe="http://x" package="shop" id="9" version="1">
<types>
<composite name="messageHeader"><type name="blockLength" primitiveType="uint16"/><type name="templateId" primitiveType="uint16"/><type name="schemaId" primitiveType="uint16"/><type name="version" primitiveType="uint16"/></composite>
<composite name="groupSizeEncoding"><type name="blockLength" primitiveType="uint16"/><type name="numInGroup" primitiveType="uint8"/></composite>
<composite name="str"><type name="length" primitiveType="uint8"/><type name="varData" primitiveType="char" length="0"/></composite>
<enum name="Side" encodingType="uint8"><validValue name="Buy">1</validValue><validValue name="Sell">2</validValue></enum>
</types>
<sbe:message name="Order" id="1">
<field name="num" id="1" type="uint32"/><field name="side" id="2" type="Side"/><field name="tip" id="3" type="int16" presence="optional" sinceVersion="1"/>
<group name="legs" id="4"><field name="qty" id="5" type="uint16"/></group>
<data name="note" id="6" type="str"/>
</sbe:message>
</sbe:messageSchema>`

// The texts of the document's examples 2, 4 and 7, by the form that the schema's text gives.
func TestShop(t *testing.T) {
	s, e, at := schema.Load(shop)
	if e != ok {
		t.Fatalf("Load: %v at %d", e, at)
	}
	f, e := ir.Compile(s, schema.Message(s, "Order"))
	if e != ok {
		t.Fatalf("Compile: %v", e)
	}
	says(t, f, `{num:258 side:Sell legs:[{qty:3} {qty:4}] note:"hi"}`, `{num:258 side:Sell tip:null legs:[{qty:3} {qty:4}] note:"hi"}`)
	refuse(t, f, "{num:4294967296}", api.ErrTooBig, 5)
	refuse(t, f, "{legs:1}", api.ErrSyntax, 6)
}
