package sbe_test

import (
	"slices"
	"strings"
	"testing"

	"stencil/api"
	"stencil/frame"
	"stencil/sbe"
)

// P26.7: the document's ten examples, but for the ninth and tenth, which other tests have.
func TestDocument(t *testing.T) {
	shopSays(t, "messages", "Order 1 0 7")
	shopSays(t, `encode Order 1 {num:258 side:Sell legs:[{qty:3} {qty:4}] note:"hi"}`, order1)
	shopSays(t, `encode Order 0 {num:258 side:Sell legs:[{qty:3} {qty:4}] note:"hi"}`, order0)
	shopSays(t, "decode 1 "+order0, "Order 23 "+seen1)
	shopSays(t, "decode 0 "+order1, "Order 25 "+seen0)
	shopSays(t, "turn 0 "+order1, order0)
	shopSays(t, "turn 1 "+order0, order1)
	shopSays(t, "get "+order1+" legs[1].qty", "4")
	shopSays(t, "get "+order1+" legs[2].qty", "! E210")
	shopSays(t, "encode Order 1 {num:4294967296}", "! E31")
	shopSays(t, "encode Order 1 {legs:1}", "! E230")
	shopSays(t, "encode Order 2 {}", "! E130")
	shopSays(t, "encode Offer 1 {}", "! E260")
	shopSays(t, "decode 1 "+order1[:len(order1)-2], "! E11")
	shopSays(t, "decode 1 06"+order1[2:], "! E193")
	shopSays(t, "decode 1 "+order1[:12]+"02"+order1[14:], "! E192")
}

// P26.1: the document's ninth example: what is no schema, and where.
func TestDocumentFaults(t *testing.T) {
	spoilt := func(old, now, at string, want api.Errno) {
		t.Helper()
		s := strings.Replace(shop, old, now, 1)
		refused(t, s, want, strings.Index(s, at))
	}
	spoilt(` presence="optional"`, "", `<field name="tip"`, api.ErrNotOptional)
	spoilt(`sinceVersion="1"`, `sinceVersion="2"`, `<field name="tip"`, api.ErrSince)
	spoilt(`name="side" id="2"`, `name="side" id="1"`, `<field name="side"`, api.ErrIDTwice)
	spoilt(`type="uint32"`, `type="str"`, `<field name="num"`, api.ErrTypeKind)
}

// refused asks for the fault of a text that is no schema, of Load and Dialog.
func refused(t *testing.T, schema string, want api.Errno, at int) {
	t.Helper()
	fault := api.Fault{Err: want, At: at}
	if c, f := sbe.Load(schema); c != nil || f != fault {
		t.Errorf("P26.1: Load(%s) = %v, %v; want %v", short(schema), c, f, fault)
	}
	for _, lines := range []string{"", "messages\n", "frob"} {
		if s, f := sbe.Dialog(schema, lines); s != "" || f != fault {
			t.Errorf("P26.7: Dialog(%s, %q) = %q, %v; want %v", short(schema), lines, s, f, fault)
		}
	}
}

// P26.7: the chapter's first four examples.
func TestTalks(t *testing.T) {
	says(t, shop, "messages\nfrob\n messages\nmessages x\ndecode 1", "Order 1 0 7\n! E261\n! E261\n! E261\n! E261\n")
	shopSays(t, "nulls Order 0", `{num:null side:null legs:[] note:""}`)
	shopSays(t, "news 1", "Order.tip")
	shopSays(t, "news 2", "! E130")
	shopSays(t, "news x", "! E30")
	shopSays(t, "decode 1 zz", "! E1")
	shopSays(t, "decode 2 00", "! E130")
	shopSays(t, "decode 1 00", "! E11")
	shopSays(t, "decode 1 0700010008000100", "! E191")
	shopSays(t, "decode 1 0700020009000100", "! E260")
	shopSays(t, "get "+order1+" note", `"hi"`)
	shopSays(t, "get "+order1+" legs", "2")
	shopSays(t, "get "+order1+" side", "2")
	shopSays(t, "get "+order1, "! E261")
}

// P26.1 to P26.6: the chapter's fifth example.
func TestCalls(t *testing.T) {
	refused(t, "<x/>", api.ErrDeclName, 0)
	c, again := both(t, shop)
	name, m, n, e := holdDecode(t, c, again, 1, raw(t, order1)+"x")
	if name != "Order" || len(m) != 10 || n != 25 || e != ok {
		t.Errorf("P26.4: Decode = %q, %v, %d, %v", name, m, n, e)
	}
	if f, e := c.Form("Order", -1); e != api.ErrVersion || !sameForms(f, api.Form{}) {
		t.Errorf("P26.2: Form of -1 = %v, %v", f, e)
	}
	lines, b, e := c.Run("Order", 1, make([]byte, 30), 0, "field num 1")
	if !slices.Equal(lines, []string{"ok 15", "ok 15", "open"}) || e != ok || string(b) != raw(t, "0700010009000100 01000000 000000 000000000000000000000000000000") {
		t.Errorf("P26.6: Run = %q, %x, %v", lines, b, e)
	}
}

// framed is a frame of a body.
func framed(encoding int, body string) string {
	s, e := frame.Wrap(api.Parcel{Type: encoding, Body: body})
	if e != ok {
		panic("no frame")
	}
	return s
}

// P26.5: the chapter's sixth example.
func TestStreamExample(t *testing.T) {
	c, again := both(t, shop)
	for encoding, want := range map[int]string{60240: "Order " + seen1, 23520: "! E241"} {
		s := framed(encoding, raw(t, order1))
		for i := range len(s) + 1 {
			for k := i; k <= len(s); k++ {
				lines, e := holdStream(t, c, again, 1, [][]byte{[]byte(s[:i]), []byte(s[i:k]), []byte(s[k:])})
				if !slices.Equal(lines, []string{want}) || e != ok {
					t.Fatalf("P26.5: cut at %d and %d: %q, %v", i, k, lines, e)
				}
			}
		}
	}
}
