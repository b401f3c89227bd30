package sbe_test

import (
	"slices"
	"strings"
	"testing"
)

// P26.7: what each command tells.
func TestCommands(t *testing.T) {
	shopSays(t, "messages", "Order 1 0 7")
	says(t, mixed, "messages", "All 40000 0 31\nNone 0 1 3\nLate 65535 2 3\n")
	says(t, bare, "messages\noutline\nnews 0", "")
	shopSays(t, "outline", `message Order id 1 since 0 block 7
  field num id 1 since 0 type uint32 required at 0 size 4
  field side id 2 since 0 type Side required at 4 size 1
  field tip id 3 since 1 type int16 optional at 5 size 2
  group legs id 4 since 0 type groupSizeEncoding block 2
    field qty id 5 since 0 type uint16 required at 0 size 2
  data note id 6 since 0 type str`)
	shopSays(t, "news 0", "Order\nOrder.num\nOrder.side\nOrder.legs\nOrder.legs.qty\nOrder.note")
	says(t, mixed, "news 1\nnews 2\nnews 3\nnews 4", "All.f\nAll.r\nAll.r.x\nAll.d\nNone\nAll.n\nLate\nLate.b\nAll.i\nLate.c\n! E130\n")
	shopSays(t, "form Order 0", `message Order 1 0 5
  field num 1 0 0 4 required
    encoding uint32 0 4 uint32 1 required
  end num
  field side 2 0 4 1 required
    enum Side 0 1
      encoding uint8 0 1 uint8 1 required
      choice Buy 1 0
      choice Sell 2 0
    end Side
  end side
  group legs 4 0 3 2
    field qty 5 0 0 2 required
      encoding uint16 0 2 uint16 1 required
    end qty
  end legs
  data note 6 0 1 char
  end note
end Order`)
	says(t, mixed, "form None 3\nform Late 2", "message None 0 1 3\nend None\nmessage Late 65535 2 2\n  field b 1 2 0 2 required\n    encoding int16 0 2 int16 1 required\n  end b\nend Late\n")
	shopSays(t, "nulls Order 1", `{num:null side:null tip:null legs:[] note:""}`)
	says(t, mixed, "nulls All 3\nnulls None 1\nnulls Late 2", "{a:null p:null c:null s:null m:null f:null i:null g:[] r:[] d:\"\" n:\"\"}\n{}\n{b:null}\n")
	shopSays(t, "dump "+order1, `0 8 head - 0700010009000100
8 12 field num 02010000
12 13 field side 02
13 15 field tip 0080
15 18 dim legs 020002
18 20 field legs[0].qty 0300
20 22 field legs[1].qty 0400
22 23 length note 02
23 25 data note 6869`)
	says(t, mixed, "dump "+strings.ReplaceAll(none1, " ", "")+"ff", "0 11 head - "+strings.ReplaceAll(none1, " ", "")[:22]+"\n11 14 pad - 000000\n")
	shopSays(t, "decode 1 "+order1+"00ff", "Order 25 "+seen1)
	shopSays(t, "turn 1 "+order1+"ff", order1)
}

// P26.7: what get tells, by what a path leads to: a field's words are numbers, null or not, and there are as many as it has elements.
func TestGet(t *testing.T) {
	shopSays(t, "get "+order0+" tip", "18446744073709518848")
	shopSays(t, "get "+order1+" num", "258")
	shopSays(t, "get "+order1+" legs[0].qty", "3")
	shopSays(t, "get "+order1+"00 note", `"hi"`)
	const all = `encode All 3 {a:7 p:-1;6 c:"a\x00\xff" s:Hold m:32768 f:1 g:[{x:1 h:[{a:-2}] e:"\n"}] n:"\"x"}`
	c, again := both(t, mixed)
	digits := strings.TrimSuffix(again.talk(all), "\n")
	if _, _, n, e := c.Decode(3, raw(t, digits)); n != len(digits)/2 || e != ok {
		t.Fatalf("%s is %s: %v", all, digits, e)
	}
	for path, want := range map[string]string{
		"a": "7", "p": "18446744073709551615,6", "c": "97,0,255", "s": "72", "m": "32768", "f": "4607182418800017408", "i": "9223372036854775808",
		"g": "1", "g[0].x": "1", "g[0].h": "1", "g[0].h[0].a": "18446744073709551614", "g[0].e": `"\n"`, "r": "0", "d": `""`, "n": `"\"x"`,
		"k": "! E210", "z": "! E210", "g[1].x": "! E210", "r[0].x": "! E210", "g[0]": "! E210", "g.x": "! E210", "g[00].x": "! E210", "a.b": "! E210", "a ": "! E210", " a": "! E210",
	} {
		says(t, mixed, "get "+digits+" "+path, want+"\n")
	}
}

// P26.7: a word that is none, an argument that is missing, and one too many of a command that has none, are told ahead of all else.
func TestNoCommand(t *testing.T) {
	lines := []string{
		"frob", "Messages", "MESSAGES", "message", "messagesx", "messages\t", "messages\r", "\tmessages", "messages\x00", "\x0b", "\x00", "\xff",
		" messages", "  messages", "messages  ", "messages  x", "messages x", "messages \t", "outline  ", "outline x", " x", "! E261",
		"news", "news ", "dump", "dump ", "form", "form ", "form Order", "form Order ", "form  1", "form  Order 1", "nulls", "nulls Order", "nulls Order ", "nulls  0",
		"encode", "encode ", "encode Order", "encode Order 1", "encode Order 1 ", "encode Order  {}", "encode  1 {}", "encode  Order 1 {}",
		"decode", "decode ", "decode 1", "decode 1 ", "decode  00", "decode  1 00", "turn", "turn 1", "turn 1 ", "turn  00", "get", "get 00", "get 00 ", "get  note",
		// Also where what is there can't be read.
		"form x", "decode x", "decode x ", "turn x ", "get zz", "get zz ", "encode Zed x", "encode Zed x ", "encode  x {",
	}
	for _, line := range lines {
		shopSays(t, line, "! E261")
	}
	says(t, shop, strings.Join(lines[:9], "\n"), strings.Repeat("! E261\n", 9))
	for _, line := range []string{"messages ", "messages"} {
		shopSays(t, line, "Order 1 0 7")
	}
	says(t, bare, "outline ", "")
}

// P26.7: the first argument that can't be read tells its error, ahead of all that is wrong with what the arguments mean.
func TestArguments(t *testing.T) {
	for line, want := range map[string]string{
		"news 65534": "! E130", "news 65535": "! E31", "news 99999999999999999999": "! E31", "news -1": "! E30", "news +1": "! E30", "news 1 ": "! E30", "news  1": "! E30", "news 1 1": "! E30", "news 0x1": "! E30", "news 001": "Order.tip", "news 1\r": "! E30",
		"form Zed x": "! E30", "form Zed 65535": "! E31", "form Zed 65534": "! E260", "form Order 65534": "! E130", "form Order 2": "! E130", "form order 0": "! E260", "form Order 1 ": "! E30",
		"nulls Zed x": "! E30", "nulls Zed 9": "! E260", "nulls Order 2": "! E130", "nulls Order 0 ": "! E30", "nulls Order 0 0": "! E30",
		"encode Order x {": "! E30", "encode Zed 65535 {": "! E31", "encode Zed 9 {": "! E260", "encode Order 9 {": "! E130", "encode Order 1 {": "! E230", "encode Order 1 {} {}": "! E230", "encode Order 1 {num:x}": "! E30", "encode Order 1 {note:\"}": "! E23",
		"encode Order 1 {num:1,2}": "! E161", "encode Order 0 {tip:1}": "! E230", "encode Order 0  { } ": "0500010009000000" + "ffffffff" + "ff" + "020000" + "00",
		"encode Order 0 {note:\"" + strings.Repeat("x", 255) + "\"}": "! E164",
		"decode x zz": "! E30", "decode 65535 zz": "! E31", "decode 9 zz": "! E1", "decode 9 0": "! E1", "decode 9 00": "! E130", "decode 1 00 ": "! E1", "decode 1 00 00": "! E1", "decode 1  00": "! E1", "decode 1 " + order1 + " ": "! E1",
		"dump zz": "! E1", "dump 0": "! E1", "dump 00 00": "! E1", "dump 00": "! E11", "dump 0700010008000100": "! E191", "dump 0700020009000100": "! E260", "dump 0700010009000200": "! E192", "dump 0600010009000100000000000000": "! E193", "dump 0700010009000100": "! E11",
		"turn x zz": "! E30", "turn 1 zz": "! E1", "turn 9 00": "! E11", "turn 9 0700010008000100": "! E191", "turn 9 0700020009000100": "! E260", "turn 9 0700010009000200": "! E130", "turn 1 0700010009000200": "! E192", "turn 2 " + order1: "! E130", "turn 1 0700010009000100": "! E11",
		"get zz [": "! E1", "get 00 [": "! E11", "get 0700010008000100 [": "! E191", "get 0700020009000100 [": "! E260", "get 0700010009000200 [": "! E210", "get 0700010009000200 num": "! E192", "get 0700010009000200 zed": "! E210", "get 0700010009000100 num": "! E11",
		"get " + order1 + " note ": "! E210", "get " + order1 + "  note": "! E210", "get " + order1 + " note note": "! E210",
	} {
		shopSays(t, line, want)
	}
	shopSays(t, "decode 01 "+strings.ToUpper(order1), "Order 25 "+seen1)
}

// P26.7: messages that weigh too much: to be null, to be written, and to be printed.
func TestTooHeavy(t *testing.T) {
	again := secondOf(t, heavy())
	says(t, heavy(), "nulls More 0\nencode More 0 {}", "! E165\n! E165\n")
	if got := holdTalk(t, heavy(), again, "nulls Most 0\nencode Most 0 {}\nform More 0\n"); !strings.HasPrefix(got, "{g0:[] ") || strings.Contains(got, "! ") {
		t.Errorf("P26.7: the heaviest tells %s", short(got))
	}
	body, text := longest()
	digits := hexOf(body)
	says(t, plain(1, "", longer), "decode 1 "+digits+"\nget "+digits+" d\nturn 1 "+digits+"\nturn 0 "+digits+"ff\ndecode 0 "+digits, "! E165\n\"\"\n! E165\n"+digits+"\nM 1048576 "+text+"\n")
}

// P26.7: lines stand between bytes 10; blank ones are passed over, and what isn't ended at the end is a line.
func TestLines(t *testing.T) {
	for lines, want := range map[string]string{
		"": "", "\n": "", "\n\n\n": "", " ": "", " \n\t\n\r\n": "", "messages": "Order 1 0 7\n", "messages\n": "Order 1 0 7\n", "\nmessages": "Order 1 0 7\n", "messages\n\n \nmessages\n\r": "Order 1 0 7\nOrder 1 0 7\n",
		"messages\r\nmessages": "! E261\nOrder 1 0 7\n", "\x0b\nmessages\n": "! E261\nOrder 1 0 7\n", "x\ny\nz": "! E261\n! E261\n! E261\n", "messages messages": "! E261\n", "encode Order 1 {}\r\nnews 1": "0700010009000100ffffffffff0080020000" + "00\nOrder.tip\n",
	} {
		says(t, shop, lines, want)
	}
}

// P26.7: each line of few pieces, of all words and arguments, right ones and wrong ones.
func TestAllLines(t *testing.T) {
	first := []string{"messages", "outline", "news", "form", "nulls", "encode", "decode", "dump", "turn", "get", "frob", ""}
	for text, rest := range map[string][]string{
		shop:  {"", "0", "1", "2", "x", "70000", "Order", "Zed", order1, order0 + "00", "0600" + order0[4:], "zz", "00", "{}", `{num:1 tip:-2}`, "note", "legs[1].qty"},
		mixed: {"", "0", "2", "3", "65534", "All", "Late", strings.ReplaceAll(late3, " ", ""), strings.ReplaceAll(none1, " ", ""), "{}", "{b:1}", "b"},
	} {
		again := secondOf(t, text)
		lines := slices.Clone(first)
		from := 0
		for range 3 {
			to := len(lines)
			for _, line := range lines[from:to] {
				for _, x := range rest {
					lines = append(lines, line+" "+x)
				}
			}
			from = to
		}
		for i := 0; i < len(lines); i += 100 {
			holdTalk(t, text, again, strings.Join(lines[i:min(i+100, len(lines))], "\n"))
		}
	}
}

// P26.7: good lines with each of their bytes gone, and with another one in its place.
func TestSpoiltLines(t *testing.T) {
	const others = "\x00\t\n\v\r !\"-019:[]afgx{}\x7f\xff"
	for _, line := range []string{
		"messages", "outline ", "news 1", "form Order 1", "nulls Order 0", `encode Order 1 {num:7 side:Buy legs:[{qty:1}] note:"a b"}`,
		"decode 1 " + order1, "dump " + order0, "turn 1 " + order0, "get " + order1 + " legs[1].qty", "get " + order0 + " note",
	} {
		again := secondOf(t, shop)
		for i := range len(line) {
			lines := []string{line[:i], line[:i] + line[i+1:]}
			for _, b := range []byte(others) {
				lines = append(lines, line[:i]+string([]byte{b})+line[i+1:], line[:i]+string([]byte{b})+line[i:])
			}
			holdTalk(t, shop, again, strings.Join(lines, "\n"))
		}
	}
}
