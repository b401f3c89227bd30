package codec_test

import (
	"bytes"
	"encoding/hex"
	"slices"
	"testing"

	"stencil/api"
	"stencil/codec"
	"stencil/ir"
	"stencil/schema"
)

// The chapter's example 1.
func TestExampleDecode(t *testing.T) {
	f := made(t, chapter)
	wantTree(t, "for 2", f, 2, []byte(sample), 0, newerTree, 18)
	wantTree(t, "for 0", f, 0, []byte(sample), 0, sampleTree, 18)
	wantTree(t, "for 1", f, 1, []byte(sample), 0, sampleTree, 18)
}

// The chapter's example 2.
func TestExampleLength(t *testing.T) {
	f := made(t, chapter)
	for _, behind := range []string{"", "\x00", "\xff", sample, string(make([]byte, 300))} {
		if n, e := codec.Length(f, []byte(sample+behind), 0); n != 18 || e != ok {
			t.Errorf("P20.4: Length with %q behind = %d, %v", behind, n, e)
		}
	}
	refuseDecode(t, "without the last byte", f, 2, []byte(sample[:17]), 0, api.ErrShort)
	refuseDecode(t, "behind the end", f, 2, []byte(sample), 19, api.ErrBuffer)
	refuseDecode(t, "at the end", f, 2, []byte(sample), 18, api.ErrShort)
}

// The chapter's example 3.
func TestExampleBytes(t *testing.T) {
	f := made(t, chapter)
	if s, e := codec.Bytes(then(t, f, 1), tree(sampleTree)); s != sample || e != ok {
		t.Errorf("P20.2: Bytes = %s, %v", head(s), e)
	}
	if s, e := codec.Turn(f, sample, 2); s != newer || e != ok {
		t.Errorf("P20.5: Turn = %s, %v", head(s), e)
	}
}

// The chapter's example 4.
func TestExampleEncode(t *testing.T) {
	f := then(t, made(t, chapter), 1)
	b := slices.Repeat([]byte{'?'}, 17)
	if n, e := codec.Encode(f, tree(sampleTree), b, 0); n != 0 || e != api.ErrShort || !bytes.Equal(b, slices.Repeat([]byte{'?'}, 17)) {
		t.Errorf("P20.1: Encode into 17 bytes = %d, %v: %q", n, e, b)
	}
	b = slices.Repeat([]byte{'?'}, 20)
	if n, e := codec.Encode(f, tree(sampleTree), b, 1); n != 18 || e != ok || string(b) != "?"+sample+"?" {
		t.Errorf("P20.1: Encode into 20 bytes = %d, %v: %q", n, e, b)
	}
}

// The chapter's example 5.
func TestExampleGaps(t *testing.T) {
	for _, x := range []struct{ form, tree, block string }{
		{"a:uint8 . . b:uint8 .", "M a=1 b=2", "\x01\x00\x00\x02\x00"},
		{"a:(int32,.,.,uint8)", "M a=-1,255", "\xff\xff\xff\xff\x00\x00\xff"},
	} {
		b := slices.Repeat([]byte{238}, 40)
		n, e := codec.Encode(made(t, x.form), tree(x.tree), b, 10)
		if n != 8+len(x.block) || e != ok || string(b[18:10+n]) != x.block || b[9] != 238 || b[10+n] != 238 {
			t.Errorf("P20.1: %s: Encode = %d, %v: %s", x.form, n, e, head(b))
		}
	}
}

// shop is the schema of the document's ten examples.
const shop = `<sbe:messageSchema xmlns:sbe="http://x" package="shop" id="9" version="1">
<types>
<composite name="messageHeader"><type name="blockLength" primitiveType="uint16"/><type name="templateId" primitiveType="uint16"/><type name="schemaId" primitiveType="uint16"/><type name="version" primitiveType="uint16"/></composite>
<composite name="groupSizeEncoding"><type name="blockLength" primitiveType="uint16"/><type name="numInGroup" primitiveType="uint8"/></composite>
<composite name="str"><type name="length" primitiveType="uint8"/><type name="varData" primitiveType="char" length="0"/></composite>
<enum name="Side" encodingType="uint8"><validValue name="Buy">1</validValue><validValue name="Sell">2</validValue></enum>
</types>
<sbe:message name="Order" id="1">
<field name="num" id="1" type="uint32"/><field name="side" id="2" type="Side"/><field name="tip" id="3" type="int16" presence="optional" sinceVersion="1"/>
<group name="legs" id="4"><field name="qty" id="5" type="uint16"/></group>
<data name="note" id="6" type="str"/>
</sbe:message>
</sbe:messageSchema>`

func order(t *testing.T) api.Form {
	t.Helper()
	s, err, _ := schema.Load(shop)
	if err != ok {
		t.Fatal(err)
	}
	f, err := ir.Compile(s, schema.Message(s, "Order"))
	if err != ok {
		t.Fatal(err)
	}
	return f
}

func unhex(t *testing.T, s string) []byte {
	t.Helper()
	b, err := hex.DecodeString(s)
	if err != nil {
		t.Fatal(err)
	}
	return b
}

const (
	order0 = "0500010009000000" + "02010000" + "02" + "020002" + "0300" + "0400" + "02" + "6869"
	order1 = "0700010009000100" + "02010000" + "02" + "0080" + "020002" + "0300" + "0400" + "02" + "6869"
)

// P0.3, P0.4: the document's examples of orders: the bytes of both versions, for readers of both, and each turned into each.
func TestShop(t *testing.T) {
	f := order(t)
	said := []string{"Order num=258 side=2 legs{ - qty=3 - qty=4 } note$hi", "Order num=258 side=2 tip=-32768 legs{ - qty=3 - qty=4 } note$hi"}
	all := []string{string(unhex(t, order0)), string(unhex(t, order1))}
	for acting, s := range all {
		if got, e := codec.Bytes(then(t, f, acting), tree(said[acting])); got != s || e != ok {
			t.Errorf("P20.2: Bytes at %d = %s, %v", acting, head(got), e)
		}
		for reader := range 2 {
			wantTree(t, "an order", f, reader, []byte(s), 0, said[reader], len(s))
			if got, e := codec.Turn(f, s, reader); got != all[reader] || e != ok {
				t.Errorf("P20.5: Turn from %d to %d = %s, %v", acting, reader, head(got), e)
			}
		}
	}
	b := unhex(t, order1)
	refuseDecode(t, "without the last byte", f, 1, b[:24], 0, api.ErrShort)
	refuseDecode(t, "with the first byte 6", f, 1, with(b, 0, 6), 0, api.ErrBlock)
	refuseDecode(t, "with the version 2", f, 1, with(b, 6, 2), 0, api.ErrActing)
}
