package dump_test

import (
	"encoding/hex"
	"slices"
	"strings"
	"testing"

	"stencil/api"
	"stencil/dump"
	"stencil/ir"
	"stencil/schema"
)

// sampleSpans and sampleLines are those of the chapter's bytes.
const sampleSpans = "0 8 head; 8 9 field a; 9 11 field b; 11 14 dim g; 14 15 field g[0].x; 15 16 length d; 16 18 data d"

var sampleLines = []string{"0 8 head - 0300030007000100", "8 9 field a 09", "9 11 field b feff", "11 14 dim g 010001", "14 15 field g[0].x 04", "15 16 length d 02", "16 18 data d 6869"}

// The chapter's example 1.
func TestExampleSpans(t *testing.T) {
	f := made(t, chapter)
	spans, e := dump.Spans(f, []byte(sample), 0)
	if e != ok || told(spans) != sampleSpans {
		t.Errorf("P22.1: %s, %v", told(spans), e)
	}
	if got := told(each(f, []byte(sample), 0)); got != sampleSpans {
		t.Errorf("P22.2: %s", got)
	}
	if want := []api.Step{{Name: "g", Entry: 0}, {Name: "x", Entry: -1}}; !slices.Equal(spans[4].Path, want) {
		t.Errorf("P22.1: the path of x is %v", spans[4].Path)
	}
	wants(t, f, []byte(sample), 0, ok, sampleSpans)
}

// The chapter's example 2.
func TestExampleLines(t *testing.T) {
	if got, e := dump.Lines(made(t, chapter), []byte(sample), 0); e != ok || !slices.Equal(got, sampleLines) {
		t.Errorf("P22.3: %q, %v", got, e)
	}
}

// The chapter's example 3.
func TestExampleOtherBlocks(t *testing.T) {
	f := made(t, chapter)
	longer := []byte("\x04" + sample[1:11] + "\x00" + sample[11:])
	want := []string{"0 8 head - 0400030007000100", "8 9 field a 09", "9 11 field b feff", "11 12 pad - 00", "12 15 dim g 010001", "15 16 field g[0].x 04", "16 17 length d 02", "17 19 data d 6869"}
	if got, e := dump.Lines(f, longer, 0); e != ok || !slices.Equal(got, want) {
		t.Errorf("P22.3: %q, %v", got, e)
	}
	none := []byte(sample[:13] + "\x00" + sample[15:])
	want = []string{sampleLines[0], sampleLines[1], sampleLines[2], "11 14 dim g 010000", "14 15 length d 02", "15 17 data d 6869"}
	if got, e := dump.Lines(f, none, 0); e != ok || !slices.Equal(got, want) {
		t.Errorf("P22.3: %q, %v", got, e)
	}
}

// The chapter's example 4.
func TestExampleRead(t *testing.T) {
	if s, e, n := dump.Read(sampleLines); s != sample || e != ok || n != 0 {
		t.Errorf("P22.4: %q, %v, %d", s, e, n)
	}
	readWants(t, slices.Delete(slices.Clone(sampleLines), 2, 3), 2)
	for _, line := range []string{"8 9 field a 9", "8 9 Field a 09", "08 9 field a 09", "8 8 field a "} {
		lines := slices.Clone(sampleLines)
		lines[1] = line
		readWants(t, lines, 1)
	}
}

// The chapter's example 5.
func TestExampleCut(t *testing.T) {
	f := made(t, chapter)
	b := []byte(sample[:17])
	if got, e := dump.Spans(f, b, 0); e != api.ErrShort || len(got) != 0 {
		t.Errorf("P22.1: %v, %v", got, e)
	}
	if got, want := told(each(f, b, 0)), "0 8 head; 8 9 field a; 9 11 field b; 11 14 dim g; 14 15 field g[0].x"; got != want {
		t.Errorf("P22.2: %s", got)
	}
}

// The chapter's example 6.
func TestExamplePlaces(t *testing.T) {
	f := made(t, chapter)
	refuse(t, "behind the end", f, []byte(sample), 19, api.ErrBuffer)
	b := []byte("??" + sample)
	if got, e := dump.Spans(f, b, 2); e != ok || told(got) != "2 10 head; 10 11 field a; 11 13 field b; 13 16 dim g; 16 17 field g[0].x; 17 18 length d; 18 20 data d" {
		t.Errorf("P22.1: %s, %v", told(got), e)
	}
	if got, e := dump.Lines(f, b, 2); e != ok || !slices.Equal(got, sampleLines) {
		t.Errorf("P22.3: %q, %v", got, e)
	}
}

// shop is the schema of the document's ten examples.
const shop = `<sbe:messageSchema xmlns:sbe="http://x" package="shop" id="9" version="1">
<types>
<composite name="messageHeader"><type name="blockLength" primitiveType="uint16"/><type name="templateId" primitiveType="uint16"/><type name="schemaId" primitiveType="uint16"/><type name="version" primitiveType="uint16"/></composite>
<composite name="groupSizeEncoding"><type name="blockLength" primitiveType="uint16"/><type name="numInGroup" primitiveType="uint8"/></composite>
<composite name="str"><type name="length" primitiveType="uint8"/><type name="varData" primitiveType="char" length="0"/></composite>
<enum name="Side" encodingType="uint8"><validValue name="Buy">1</validValue><validValue name="Sell">2</validValue></enum>
</types>
<sbe:message name="Order" id="1">
<field name="num" id="1" type="uint32"/><field name="side" id="2" type="Side"/><field name="tip" id="3" type="int16" presence="optional" sinceVersion="1"/>
<group name="legs" id="4"><field name="qty" id="5" type="uint16"/></group>
<data name="note" id="6" type="str"/>
</sbe:message>
</sbe:messageSchema>`

// The messages of the document's examples 2 and 3, by the form that the schema's text gives.
func TestShop(t *testing.T) {
	s, e, at := schema.Load(shop)
	if e != ok {
		t.Fatalf("Load: %v at %d", e, at)
	}
	f, e := ir.Compile(s, schema.Message(s, "Order"))
	if e != ok {
		t.Fatalf("Compile: %v", e)
	}
	for bytes, want := range map[string]string{
		"07000100090001000201000002008002000203000400026869": "0 8 head - 0700010009000100|8 12 field num 02010000|12 13 field side 02|13 15 field tip 0080|15 18 dim legs 020002|18 20 field legs[0].qty 0300|20 22 field legs[1].qty 0400|22 23 length note 02|23 25 data note 6869",
		"0500010009000000020100000202000203000400026869":     "0 8 head - 0500010009000000|8 12 field num 02010000|12 13 field side 02|13 16 dim legs 020002|16 18 field legs[0].qty 0300|18 20 field legs[1].qty 0400|20 21 length note 02|21 23 data note 6869",
	} {
		b, _ := hex.DecodeString(bytes)
		if got, e := dump.Lines(f, b, 0); e != ok || strings.Join(got, "|") != want {
			t.Errorf("P22.3: %q, %v", got, e)
		}
		hold(t, planOf(f), b, 0)
	}
}
