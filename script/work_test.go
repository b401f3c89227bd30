package script_test

import (
	"math"
	"strings"
	"testing"

	"stencil/api"
	"stencil/script"
)

// P25.6: lines of a million bytes and more, good ones and such as are refused at their end.
func TestLongLines(t *testing.T) {
	const n = 1 << 20
	spaces := strings.Repeat(" ", n)
	refuses(t, spaces, api.ErrLine, n)
	refuses(t, strings.Repeat("x", n), api.ErrLine, 0)
	refuses(t, "field "+strings.Repeat("x", n), api.ErrLine, 6)
	refuses(t, "field a 1"+spaces+"x", api.ErrLine, 9+n)
	refuses(t, "next"+spaces+"x", api.ErrLine, 4+n)
	means(t, spaces+"next"+spaces, next())
	means(t, spaces+"field"+spaces+"a"+spaces+"1"+spaces, field("a", 1))
	means(t, "group g "+strings.Repeat("0", n)+"7", group("g", 7))
	refuses(t, "group g "+strings.Repeat("1", n), api.ErrTooBig, 8)
	refuses(t, "group g "+strings.Repeat("1", n)+"x", api.ErrNumber, 8+n)
	means(t, "field a "+strings.Repeat("0", n)+"7", field("a", 7))
	refuses(t, "field a "+strings.Repeat("1", n), api.ErrTooBig, 8)
	refuses(t, "field a "+strings.Repeat("1,", n), api.ErrNumber, 8+2*n)
	refuses(t, "data d \""+strings.Repeat("x", n), api.ErrQuote, 8+n)
	refuses(t, "data d \""+strings.Repeat("x", n)+"\"x", api.ErrLine, 9+n)
	refuses(t, "data d \""+strings.Repeat("\\x41", n)+"\\x4", api.ErrQuote, 8+4*n+3)

	many := make([]uint64, n)
	for i := range many {
		many[i] = math.MaxUint64 - uint64(i)
	}
	for _, c := range []api.Call{field("a", many...), data("d", spaces), data("d", strings.Repeat("\xff\"", n))} {
		s, e := script.Print(c)
		if back, err, _ := script.Parse(s); e != ok || err != ok || !same(back, c) {
			t.Errorf("P25.2: a long call: %v, %v, %s", e, err, short(s))
		}
	}
}

// P25.6: scripts of very many lines, most of which are passed over.
func TestLongScripts(t *testing.T) {
	f := little(t, 1, chapter)
	const n = 1 << 20
	for _, s := range []string{strings.Repeat("\n", n), strings.Repeat("#\n", n), strings.Repeat(" ", n), strings.Repeat(" # x\n\n", n), "#" + strings.Repeat("x", n)} {
		writes(t, f, 20, 0, s, "ok 9\nopen")
		writes(t, f, 20, 0, s+"\nfield a 1\n"+s+"\ndata d \"x\"\n"+s, "ok 9\nok 9\nok 11\ndone")
		reads(t, f, 1, "\x01\x00\x03\x00\x07\x00\x01\x00\x07\x01x", 0, s+"\nfield a 1\n"+s+"\ndata d\n"+s, "ok 1\n= 7\n= \"x\"\ndone")
	}
	ended(t, "P25.4: many", script.Write(f, make([]byte, 20), 0, strings.Repeat("x\n", n)), api.MaxCalls, true, "open")
}

// P25.4, P25.5: as many entries as lines may begin, and fields of many words.
func TestManyEntries(t *testing.T) {
	f := little(t, 1, `<group name="g" id="1" dimensionType="wide"><field name="x" id="2" type="uint8"/></group><data name="d" id="3" type="long"/>`)
	const n = (api.MaxCalls - 2) / 2
	lines := []string{"group g 9999"}
	for range n {
		lines = append(lines, "next", "field x 7")
	}
	lines = append(lines, `data d "x"`)
	s := strings.Join(lines, "\n")
	b := make([]byte, 8+6+n+5)
	ended(t, "P25.4", script.Write(f, b, 0, s), len(lines), false, "done")
	if string(b[8:]) != "\x01\x00\x0f\x27\x00\x00"+strings.Repeat("\x07", n)+"\x01\x00\x00\x00x" {
		t.Error("P25.4: the bytes are others")
	}
	ended(t, "P25.5", script.Read(f, 1, b, 0, s), len(lines), false, "done")

	// One message as great as may be.
	long := strings.Repeat("x", api.MaxMessage-8-6-4)
	b = make([]byte, api.MaxMessage+1)
	writes(t, f, api.MaxMessage+1, 0, "group g\ndata d \""+long+"y\"\ndata d \""+long+"\"", "ok 8\nok 14\n! E165\nok 1048576\ndone")
	script.Write(f, b, 0, "group g\ndata d \""+long+"\"")
	reads(t, f, 1, string(b), 0, "group g\ndata d", "ok 1\n= 0\n= \""+long+"\"\ndone")

	g := little(t, 1, `<field name="m" id="1" type="many"/>`)
	list := strings.TrimSuffix(strings.Repeat("65534,", 30000), ",")
	b = make([]byte, 60008)
	told(t, "P25.4", script.Write(g, b, 0, strings.Repeat("field m "+list+"\n", 20)), strings.Repeat("ok 60008\n", 21)+"done")
	reads(t, g, 1, string(b), 0, strings.Repeat("field m\n", 20), "ok 1\n"+strings.Repeat("= "+list+"\n", 20)+"done")
}
