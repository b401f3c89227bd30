package sbe_test

import (
	"strconv"
	"strings"
)

// shop is the schema of the document's ten examples.
const shop = `<sbe:messageSchema xmlns:sbe="http://x" package="shop" id="9" version="1">
<types>
<composite name="messageHeader"><type name="blockLength" primitiveType="uint16"/><type name="templateId" primitiveType="uint16"/><type name="schemaId" primitiveType="uint16"/><type name="version" primitiveType="uint16"/></composite>
<composite name="groupSizeEncoding"><type name="blockLength" primitiveType="uint16"/><type name="numInGroup" primitiveType="uint8"/></composite>
<composite name="str"><type name="length" primitiveType="uint8"/><type name="varData" primitiveType="char" length="0"/></composite>
<enum name="Side" encodingType="uint8"><validValue name="Buy">1</validValue><validValue name="Sell">2</validValue></enum>
</types>
<sbe:message name="Order" id="1">
<field name="num" id="1" type="uint32"/><field name="side" id="2" type="Side"/><field name="tip" id="3" type="int16" presence="optional" sinceVersion="1"/>
<group name="legs" id="4"><field name="qty" id="5" type="uint16"/></group>
<data name="note" id="6" type="str"/>
</sbe:message>
</sbe:messageSchema>`

// The bytes of the document's second and third examples, in hex, and the texts that readers of the versions 1 and 0 see.
const (
	order1 = "0700010009000100" + "02010000" + "02" + "0080" + "020002" + "0300" + "0400" + "02" + "6869"
	order0 = "0500010009000000" + "02010000" + "02" + "020002" + "0300" + "0400" + "02" + "6869"
	seen1  = `{num:258 side:Sell tip:null legs:[{qty:3} {qty:4}] note:"hi"}`
	seen0  = `{num:258 side:Sell legs:[{qty:3} {qty:4}] note:"hi"}`
)

// mixed has messages of all versions and parts of all kinds, the highest byte first, and a header whose numbers are of three sizes, with gaps between them.
const mixed = `<?xml version="1.0"?>
<messageSchema package="mixed.up" id="300" version="3" byteOrder="bigEndian" headerType="head">
<types>
<composite name="head"><type name="version" primitiveType="uint8"/><type name="templateId" primitiveType="uint32" offset="2"/><type name="blockLength" primitiveType="uint16"/><type name="schemaId" primitiveType="uint16" offset="9"/></composite>
<composite name="groupSizeEncoding"><type name="numInGroup" primitiveType="uint8"/><type name="blockLength" primitiveType="uint16" offset="2"/></composite>
<composite name="wide"><type name="blockLength" primitiveType="uint32"/><type name="numInGroup" primitiveType="uint32"/></composite>
<composite name="short"><type name="length" primitiveType="uint8"/><type name="varData" primitiveType="char" length="0"/></composite>
<composite name="long"><type name="length" primitiveType="uint32"/><type name="varData" primitiveType="uint8" length="0"/></composite>
<composite name="pair"><type name="one" primitiveType="int16"/><type name="gap" primitiveType="uint8" presence="constant">1</type><type name="two" primitiveType="uint32" offset="4"/></composite>
<type name="chars" primitiveType="char" length="3"/>
<type name="Two" primitiveType="uint8" presence="constant">2</type>
<enum name="Side" encodingType="char"><validValue name="Buy">B</validValue><validValue name="Sell">S</validValue><validValue name="Hold" sinceVersion="2">H</validValue></enum>
<set name="Flags" encodingType="uint16"><choice name="low">0</choice><choice name="high">15</choice></set>
</types>
<message name="All" id="40000"><field name="a" id="1" type="uint8"/><field name="p" id="2" type="pair"/><field name="c" id="3" type="chars"/><field name="k" id="20" type="Two"/>
<field name="s" id="21" type="Side"/><field name="m" id="22" type="Flags"/>
<field name="f" id="4" type="double" presence="optional" sinceVersion="1"/><field name="i" id="14" type="int64" presence="optional" sinceVersion="3"/>
<group name="g" id="5"><field name="x" id="6" type="uint8"/><group name="h" id="7" dimensionType="wide"><field name="a" id="8" type="int8"/></group><data name="e" id="9" type="short"/></group>
<group name="r" id="10" sinceVersion="1"><field name="x" id="11" type="float" sinceVersion="1"/></group>
<data name="d" id="12" type="short" sinceVersion="1"/><data name="n" id="13" type="long" sinceVersion="2"/></message>
<message name="None" id="0" sinceVersion="1" blockLength="3"/>
<message name="Late" id="65535" sinceVersion="2"><field name="b" id="1" type="int16" sinceVersion="2"/><field name="c" id="2" type="uint8" presence="optional" sinceVersion="3"/></message>
</messageSchema>`

// bare has no message at all.
const bare = `<messageSchema package="b" id="0"><types><composite name="messageHeader"><type name="blockLength" primitiveType="uint8"/><type name="templateId" primitiveType="uint8"/><type name="schemaId" primitiveType="uint8"/><type name="version" primitiveType="uint8"/></composite></types></messageSchema>`

// plain is a schema of a version with a header of four uint16, and what else its types and messages are.
func plain(version int, types, messages string) string {
	return `<messageSchema package="p" id="7" version="` + strconv.Itoa(version) + `"><types>
<composite name="messageHeader"><type name="blockLength" primitiveType="uint16"/><type name="templateId" primitiveType="uint16"/><type name="schemaId" primitiveType="uint16"/><type name="version" primitiveType="uint16"/></composite>
<composite name="groupSizeEncoding"><type name="blockLength" primitiveType="uint16"/><type name="numInGroup" primitiveType="uint16"/></composite>
<composite name="short"><type name="length" primitiveType="uint8"/><type name="varData" primitiveType="char" length="0"/></composite>
<composite name="long"><type name="length" primitiveType="uint32"/><type name="varData" primitiveType="uint8" length="0"/></composite>
` + types + "</types>" + messages + "</messageSchema>"
}

// heavy has two messages, whose dimensions have 1048560 bytes together: Most weighs as much as a message may, More one byte more.
func heavy() string {
	groups := ""
	for i := range 16 {
		groups += `<group name="g` + strconv.Itoa(i) + `" id="` + strconv.Itoa(i) + `" dimensionType="vast"/>`
	}
	return plain(0, `<composite name="vast"><type name="blockLength" primitiveType="uint16"/><type name="numInGroup" primitiveType="uint16" offset="65533"/></composite>`,
		`<message name="Most" id="1" blockLength="8">`+groups+`</message><message name="More" id="2" blockLength="9">`+groups+`</message>`)
}

// longer has a message that a reader of version 1 sees with data that older bytes don't have.
const longer = `<message name="M" id="1"><data name="n" id="1" type="long"/><data name="d" id="2" type="short" sinceVersion="1"/></message>`

// crowded is a schema whose forms have more tokens together than a codec keeps: each of many fields has a type of many values. The message Few has none of them.
func crowded(fields, values int) string {
	var s strings.Builder
	s.WriteString(`<enum name="Many" encodingType="uint16">`)
	for i := range values {
		n := strconv.Itoa(i)
		s.WriteString(`<validValue name="v` + n + `">` + n + `</validValue>`)
	}
	types := s.String() + "</enum>"
	s.Reset()
	s.WriteString(`<message name="Few" id="1"><field name="a" id="1" type="uint8"/></message><message name="Crowd" id="2">`)
	for i := range fields {
		n := strconv.Itoa(i)
		s.WriteString(`<field name="f` + n + `" id="` + n + `" type="Many"/>`)
	}
	return plain(0, types, s.String()+`</message>`)
}
