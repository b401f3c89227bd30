package sbe_test

import (
	"fmt"
	"runtime"
	"strings"
	"testing"

	"stencil/api"
	"stencil/sbe"
	"stencil/value"
)

// P26.2 to P26.7: a schema whose forms have more tokens together than are kept: all is answered as of any other.
func TestCrowdedSchema(t *testing.T) {
	text := crowded(530, 500)
	c, again := both(t, text)
	for _, name := range []string{"Few", "Crowd"} {
		f, e := holdForm(t, c, again, name, 0)
		m, err := value.Nulls(f)
		if e != ok || err != ok {
			t.Fatalf("P26.2: Form(%s): %v, %v", name, e, err)
		}
		s, e := c.Encode(name, 0, m)
		got, tree, n, err := c.Decode(0, s+"x")
		if e != ok || err != ok || got != name || n != len(s) || !sameNodes(tree, m) {
			t.Errorf("P26.4: Decode = %q, %v, %d, %v, %v", got, tree, n, e, err)
		}
	}
	for _, name := range []string{"None", ""} {
		holdForm(t, c, again, name, 0)
	}
	holdStream(t, c, again, 0, [][]byte{[]byte(framed(60240, "\x01\x00\x01\x00\x07\x00\x00\x00\x09")), []byte(framed(60240, "\x24\x04\x02\x00\x07\x00\x00\x00"))})
	holdRun(t, c, again, "Crowd", 0, strings.Repeat("x", 2000), 0, "field a 7\nfield f3 1")
	holdTalk(t, text, again, "messages\nnews 0\nencode Few 0 {f1:v1}\ndecode 0 00\ndecode 0 0000030007000000\n")
}

// P26.1: a schema whose forms would have some hundred million tokens is loaded in little memory, and all is answered that takes no such form.
func TestVastSchema(t *testing.T) {
	text := crowded(9900, 9900)
	if len(text) > api.MaxInput {
		t.Fatal(len(text))
	}
	var before, behind runtime.MemStats
	runtime.ReadMemStats(&before)
	c := load(t, text)
	runtime.ReadMemStats(&behind)
	if n := behind.TotalAlloc - before.TotalAlloc; n > 1<<29 {
		t.Errorf("P26.1: Load takes %d bytes", n)
	}
	if s := c.Schema(); len(s.Parts) != 9903 {
		t.Errorf("P26.2: the schema has %d parts", len(s.Parts))
	}
	if f, e := c.Form("Few", 0); e != ok || len(f.Tokens) != 5 {
		t.Errorf("P26.2: Form = %v, %v", f, e)
	}
	if name, m, n, e := c.Decode(0, "\x01\x00\x01\x00\x07\x00\x00\x00\x09"); name != "Few" || len(m) != 2 || n != 9 || e != ok {
		t.Errorf("P26.4: Decode = %q, %v, %d, %v", name, m, n, e)
	}
	for s, want := range map[string]api.Errno{"": api.ErrShort, "\x01\x00\x02\x00\x08\x00\x00\x00": api.ErrSchemaID, "\x01\x00\x03\x00\x07\x00\x00\x00": api.ErrMessage} {
		decodeFails(t, c, 0, hexOf(s), want)
	}
	lines, e := c.Stream(0, [][]byte{[]byte(framed(60240, "\x01\x00\x01\x00\x07\x00\x00\x00\x09"))})
	if len(lines) != 1 || lines[0] != "Few {a:9}" || e != ok {
		t.Errorf("P26.5: Stream = %q, %v", lines, e)
	}
	says(t, text, "messages\nencode Few 0 {a:9}", "Few 1 0 1\nCrowd 2 0 19800\n010001000700000009\n")
}

// P26.5: very many small parcels, at once and byte by byte, of a schema with very many messages.
func TestLongStream(t *testing.T) {
	messages := ""
	for i := range 5000 {
		messages += fmt.Sprintf(`<message name="M%d" id="%d"><field name="a" id="1" type="uint8"/></message>`, i, i)
	}
	c := load(t, plain(0, "", messages))
	var s strings.Builder
	const n = 20000
	for i := range n {
		id := i % 5000
		s.WriteString(framed(60240, "\x01\x00"+string([]byte{byte(id), byte(id >> 8)})+"\x07\x00\x00\x00"+string([]byte{byte(i % 255)})))
	}
	whole := []byte(s.String())
	var bytes [][]byte
	for i := range whole {
		bytes = append(bytes, whole[i:i+1])
	}
	for _, chunks := range [][][]byte{{whole}, bytes} {
		lines, e := c.Stream(0, chunks)
		if len(lines) != n || e != ok {
			t.Fatalf("P26.5: %d lines, %v", len(lines), e)
		}
		for i, line := range lines {
			want := fmt.Sprintf("M%d {a:%d}", i%5000, i%255)
			if line != want {
				t.Fatalf("P26.5: the line %d is %s, not %s", i, line, want)
			}
		}
	}
}

// P26.7: talks of very many lines, and of very long ones.
func TestLongTalks(t *testing.T) {
	const n = 100000
	says(t, shop, strings.Repeat("\n", n)+strings.Repeat(" \t\r\n", n), "")
	says(t, shop, strings.Repeat("messages\n", n), strings.Repeat("Order 1 0 7\n", n))
	says(t, shop, strings.Repeat("frob\n\n", n), strings.Repeat("! E261\n", n))
	const long = 1 << 20
	for line, want := range map[string]string{
		strings.Repeat(" ", long):                                      "",
		strings.Repeat("x", long):                                      "! E261\n",
		strings.Repeat(" ", long) + "messages":                         "! E261\n",
		"messages" + strings.Repeat(" ", long):                         "! E261\n",
		"news " + strings.Repeat("0", long) + "1":                      "Order.tip\n",
		"news " + strings.Repeat("1", long):                            "! E31\n",
		"form " + strings.Repeat("x", long) + " 1":                     "! E260\n",
		"form Order " + strings.Repeat(" ", long):                      "! E30\n",
		"decode 1 " + strings.Repeat("0", long):                        "! E191\n",
		"decode 1 " + order1 + strings.Repeat("f", long):               "Order 25 " + seen1 + "\n",
		"decode 1 " + order1 + strings.Repeat("f", long) + "g":         "! E1\n",
		"get " + order1 + strings.Repeat("0", long) + " note":          "\"hi\"\n",
		"get " + order1 + " " + strings.Repeat("note.", long):          "! E210\n",
		"encode Order 1 {" + strings.Repeat(" ", long) + "}":           "0700010009000100ffffffffff008002000000\n",
		"encode Order 1 {" + strings.Repeat("{", long):                 "! E230\n",
		"encode Order 1 {legs:[" + strings.Repeat("{}", 254) + "]}":    "0700010009000100ffffffffff00800200fe" + strings.Repeat("ffff", 254) + "00\n",
		"encode Order 1 {legs:[" + strings.Repeat("{}", long/2) + "]}": "! E163\n",
	} {
		says(t, shop, line, want)
	}
}

// P26.4: what stands behind a message, however much it is, isn't read.
func TestLongTail(t *testing.T) {
	c := load(t, shop)
	name, m, n, e := c.Decode(1, raw(t, order1)+strings.Repeat("\xff", 1<<24))
	if name != "Order" || len(m) != 10 || n != 25 || e != ok {
		t.Errorf("P26.4: Decode = %q, %v, %d, %v", name, m, n, e)
	}
	if _, fault := sbe.Dialog(shop, ""); fault != (api.Fault{}) {
		t.Error(fault)
	}
}
