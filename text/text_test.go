package text_test

import (
	"encoding/hex"
	"strconv"
	"strings"
	"testing"
	"unicode/utf8"

	"stencil/api"
	"stencil/text"
)

// span is a range of bytes, both ends in.
type span struct{ low, high int }

// rows is the chapter's table of sequences, row by row.
var rows = [][]span{
	{{0x00, 0x7F}},
	{{0xC2, 0xDF}, {0x80, 0xBF}},
	{{0xE0, 0xE0}, {0xA0, 0xBF}, {0x80, 0xBF}},
	{{0xE1, 0xEC}, {0x80, 0xBF}, {0x80, 0xBF}},
	{{0xEE, 0xEF}, {0x80, 0xBF}, {0x80, 0xBF}},
	{{0xED, 0xED}, {0x80, 0x9F}, {0x80, 0xBF}},
	{{0xF0, 0xF0}, {0x90, 0xBF}, {0x80, 0xBF}, {0x80, 0xBF}},
	{{0xF1, 0xF3}, {0x80, 0xBF}, {0x80, 0xBF}, {0x80, 0xBF}},
	{{0xF4, 0xF4}, {0x80, 0x8F}, {0x80, 0xBF}, {0x80, 0xBF}},
}

func (r span) has(c byte) bool { return int(c) >= r.low && int(c) <= r.high }

// size is how many bytes of s its first sequence takes by the table, 0 if none begins.
func size(s string) int {
	for _, row := range rows {
		fits := len(s) >= len(row)
		for i := 0; fits && i < len(row); i++ {
			fits = row[i].has(s[i])
		}
		if fits {
			return len(row)
		}
	}
	return 0
}

// xmlChar says by the numbers of the chapter whether a sequence is a character of XML.
func xmlChar(seq string) bool {
	n, _ := utf8.DecodeRuneInString(seq)
	return isXMLNumber(int(n))
}

func isXMLNumber(n int) bool {
	return n == 9 || n == 10 || n == 13 || n >= 32 && n <= 55295 || n >= 57344 && n <= 65533 || n >= 65536 && n <= 1114111
}

// wanted is what Check and Chars have to answer of s.
func wanted(s string) (check api.Errno, checkAt int, chars api.Errno, charsAt int) {
	for at := 0; at < len(s); {
		n := size(s[at:])
		if n == 0 {
			if chars == api.OK {
				chars, charsAt = api.ErrUTF8, at
			}
			return api.ErrUTF8, at, chars, charsAt
		}
		if chars == api.OK && !xmlChar(s[at:at+n]) {
			chars, charsAt = api.ErrXMLChar, at
		}
		at += n
	}
	return api.OK, 0, chars, charsAt
}

func holdChecks(t *testing.T, s string) {
	t.Helper()
	check, checkAt, chars, charsAt := wanted(s)
	if e, at := text.Check(s); e != check || at != checkAt {
		t.Errorf("Check(%q) = %d, %d; want %d, %d", s, e, at, check, checkAt)
	}
	if e, at := text.Chars(s); e != chars || at != charsAt {
		t.Errorf("Chars(%q) = %d, %d; want %d, %d", s, e, at, chars, charsAt)
	}
}

// P2.1, P2.2: the chapter's examples, and which fault comes first.
func TestCheckAndCharsExamples(t *testing.T) {
	for _, x := range []struct {
		s       string
		check   api.Errno
		checkAt int
		chars   api.Errno
		charsAt int
	}{
		{"", api.OK, 0, api.OK, 0},
		{"a€", api.OK, 0, api.OK, 0},
		{"ab\xFF", api.ErrUTF8, 2, api.ErrUTF8, 2},
		{"a\xC3", api.ErrUTF8, 1, api.ErrUTF8, 1},
		{"\xED\xA0\x80", api.ErrUTF8, 0, api.ErrUTF8, 0},
		{"a\nb\x7F", api.OK, 0, api.OK, 0},
		{"ab\x00", api.OK, 0, api.ErrXMLChar, 2},
		{"\xEF\xBF\xBE", api.OK, 0, api.ErrXMLChar, 0},
		{"\x00\xFF", api.ErrUTF8, 1, api.ErrXMLChar, 0},
		{"\xFF\x00", api.ErrUTF8, 0, api.ErrUTF8, 0},
		{"é€\xF0\x9F\x98\x80\xEF\xBF\xBF\xFF", api.ErrUTF8, 12, api.ErrXMLChar, 9},
		{"é€\xF0\x9F\x98\x80\x80", api.ErrUTF8, 9, api.ErrUTF8, 9},
		{"a\xE2\x82", api.ErrUTF8, 1, api.ErrUTF8, 1},
		{"a\xE2\x82b", api.ErrUTF8, 1, api.ErrUTF8, 1},
		{"a\xF0\x9F\x98", api.ErrUTF8, 1, api.ErrUTF8, 1},
		{"a\xF0\x9F\x98z", api.ErrUTF8, 1, api.ErrUTF8, 1},
		{"\xC0\x80", api.ErrUTF8, 0, api.ErrUTF8, 0},
		{"\xC1\xBF", api.ErrUTF8, 0, api.ErrUTF8, 0},
		{"\xE0\x9F\xBF", api.ErrUTF8, 0, api.ErrUTF8, 0},
		{"\xF0\x8F\xBF\xBF", api.ErrUTF8, 0, api.ErrUTF8, 0},
		{"\xF4\x90\x80\x80", api.ErrUTF8, 0, api.ErrUTF8, 0},
		{"\xF5\x80\x80\x80", api.ErrUTF8, 0, api.ErrUTF8, 0},
		{"\xED\xBF\xBF", api.ErrUTF8, 0, api.ErrUTF8, 0},
		{"\xED\x9F\xBF\xEE\x80\x80", api.OK, 0, api.OK, 0},
		{"\xF4\x8F\xBF\xBF", api.OK, 0, api.OK, 0},
		{"\xEF\xBF\xBD", api.OK, 0, api.OK, 0},
	} {
		if e, at := text.Check(x.s); e != x.check || at != x.checkAt {
			t.Errorf("Check(%q) = %d, %d; want %d, %d", x.s, e, at, x.check, x.checkAt)
		}
		if e, at := text.Chars(x.s); e != x.chars || at != x.charsAt {
			t.Errorf("Chars(%q) = %d, %d; want %d, %d", x.s, e, at, x.chars, x.charsAt)
		}
	}
}

// edges are the bytes at which the table of sequences turns, and those just beyond.
var edges = []byte{0x00, 0x08, 0x09, 0x0A, 0x0B, 0x0C, 0x0D, 0x0E, 0x1F, 0x20, 0x41, 0x7F, 0x80, 0x8F, 0x90, 0x9F, 0xA0, 0xBE, 0xBF, 0xC0, 0xC1, 0xC2,
	0xDF, 0xE0, 0xE1, 0xEC, 0xED, 0xEE, 0xEF, 0xF0, 0xF1, 0xF3, 0xF4, 0xF5, 0xFF}

// P2.1, P2.2: every text of one byte and of two, every first byte with all rows' ends behind it, and each text of it with a sequence ahead and behind.
func TestCheckAndCharsByTheTable(t *testing.T) {
	for a := range 256 {
		holdChecks(t, string([]byte{byte(a)}))
		for b := range 256 {
			holdChecks(t, string([]byte{byte(a), byte(b)}))
		}
		for _, b := range edges {
			for _, c := range edges {
				s := string([]byte{byte(a), b, c})
				holdChecks(t, s)
				holdChecks(t, "é"+s+"x")
				for _, d := range []byte{0x00, 0x7F, 0x80, 0xBE, 0xBF, 0xC0, 0xFF} {
					holdChecks(t, s+string([]byte{d}))
				}
			}
		}
	}
}

// P2.1, P2.2: each character that there is, and so each number at which XML's characters begin and end.
func TestEveryCharacter(t *testing.T) {
	for n := rune(0); n <= utf8.MaxRune; n++ {
		if !utf8.ValidRune(n) {
			continue
		}
		s := "a" + string(n)
		if e, at := text.Check(s); e != api.OK || at != 0 {
			t.Fatalf("Check of the character %d = %d, %d", n, e, at)
		}
		want, wantAt := api.OK, 0
		if !isXMLNumber(int(n)) {
			want, wantAt = api.ErrXMLChar, 1
		}
		if e, at := text.Chars(s); e != want || at != wantAt {
			t.Fatalf("Chars of the character %d = %d, %d; want %d, %d", n, e, at, want, wantAt)
		}
	}
}

const (
	letters = "ABCDEFGHIJKLMNOPQRSTUVWXYZabcdefghijklmnopqrstuvwxyz"
	digits  = "0123456789"
)

// P2.3, P2.4: each byte as the first one and as a later one.
func TestNamesByteByByte(t *testing.T) {
	for c := range 256 {
		b := string([]byte{byte(c)})
		in := func(set string) bool { return strings.Contains(set, b) }
		for _, x := range []struct {
			what string
			got  bool
			want bool
		}{
			{"XMLName, first", text.XMLName(b), in(letters + "_:")},
			{"XMLName, first of more", text.XMLName(b + "a"), in(letters + "_:")},
			{"XMLName, last", text.XMLName("a" + b), in(letters + digits + "_:-.")},
			{"XMLName, in between", text.XMLName("_" + b + "z"), in(letters + digits + "_:-.")},
			{"Symbol, first", text.Symbol(b), in(letters + "_")},
			{"Symbol, first of more", text.Symbol(b + "a"), in(letters + "_")},
			{"Symbol, last", text.Symbol("a" + b), in(letters + digits + "_")},
			{"Symbol, in between", text.Symbol("_" + b + "z"), in(letters + digits + "_")},
		} {
			if x.got != x.want {
				t.Errorf("%s, of the byte %#x: %v", x.what, c, x.got)
			}
		}
	}
}

// P2.3: examples, the empty text, and that no length is too great.
func TestXMLName(t *testing.T) {
	for _, s := range []string{"sbe:message", "_a-1.", ":", "a", "xmlns:xi", strings.Repeat("a", 65), "a" + strings.Repeat("-", 100000)} {
		if !text.XMLName(s) {
			t.Errorf("XMLName(%.80q) is false", s)
		}
	}
	for _, s := range []string{"", "1a", "-a", ".a", "a b", " a", "a ", "é", "aé", "a\x00", strings.Repeat("a", 1000) + "!"} {
		if text.XMLName(s) {
			t.Errorf("XMLName(%.80q) is true", s)
		}
	}
}

// P2.4: examples, the empty text, and the lengths 1, 64 and 65.
func TestSymbol(t *testing.T) {
	for _, s := range []string{"MONTH_CODE1", "_", "a", "Z9", strings.Repeat("a", 63), strings.Repeat("_", 64), "a" + strings.Repeat("9", 63)} {
		if !text.Symbol(s) {
			t.Errorf("Symbol(%q) is false", s)
		}
	}
	for _, s := range []string{"", "a-b", "a:b", "a.b", "1", "1a", "a b", "é", strings.Repeat("a", 65), strings.Repeat("a", 63) + "-", strings.Repeat("a", 1000)} {
		if text.Symbol(s) {
			t.Errorf("Symbol(%q) is true", s)
		}
	}
}

// P2.5: Blank of each byte, and where one byte of several is none.
func TestBlank(t *testing.T) {
	for c := range 256 {
		b := string([]byte{byte(c)})
		want := strings.Contains("\t\n\r ", b)
		for _, s := range []string{b, b + " ", " " + b, "\n" + b + "\t"} {
			if text.Blank(s) != want {
				t.Errorf("Blank(%q) is %v", s, !want)
			}
		}
	}
	if !text.Blank("") || !text.Blank(" \t\n\r") || text.Blank("\u00A0") || text.Blank(" \u2003 ") {
		t.Error("Blank of nothing, of all blanks, of other white space")
	}
}

// P2.5: Trim takes blanks alone, at the ends alone.
func TestTrim(t *testing.T) {
	for _, x := range [][2]string{
		{"", ""}, {"  ", ""}, {" \na b\r ", "a b"}, {"a", "a"}, {"\t\n\r a", "a"}, {"a \r\n\t", "a"}, {" \v a \f ", "\v a \f"},
		{" \u00A0 ", "\u00A0"}, {" \u0085", "\u0085"}, {"\x00 ", "\x00"}, {" \xFF \xA0", "\xFF \xA0"},
	} {
		if got := text.Trim(x[0]); got != x[1] {
			t.Errorf("Trim(%q) = %q; want %q", x[0], got, x[1])
		}
	}
}

// P2.6: each byte, between tags and in an attribute.
func TestEscape(t *testing.T) {
	plain := map[byte]string{'&': "&amp;", '<': "&lt;", '>': "&gt;", '\r': "&#13;"}
	attr := map[byte]string{'&': "&amp;", '<': "&lt;", '>': "&gt;", '\r': "&#13;", '"': "&quot;", '\t': "&#9;", '\n': "&#10;"}
	for c := range 256 {
		b := string([]byte{byte(c)})
		for inAttr, entities := range map[bool]map[byte]string{false: plain, true: attr} {
			want := b
			if e, ok := entities[byte(c)]; ok {
				want = e
			}
			if got := text.Escape("x"+b+b+"y", inAttr); got != "x"+want+want+"y" {
				t.Errorf("Escape of the byte %#x, %v: %q", c, inAttr, got)
			}
		}
	}
	const s = "a<b>&\"'\n\r"
	if got := text.Escape(s, false); got != "a&lt;b&gt;&amp;\"'\n&#13;" {
		t.Errorf("Escape between tags: %q", got)
	}
	if got := text.Escape(s, true); got != "a&lt;b&gt;&amp;&quot;'&#10;&#13;" {
		t.Errorf("Escape in an attribute: %q", got)
	}
	if text.Escape("", false) != "" || text.Escape("", true) != "" || text.Escape("&amp;", false) != "&amp;amp;" {
		t.Error("Escape of nothing, or of what is escaped")
	}
}

// P2.7: entities that are.
func TestUnescape(t *testing.T) {
	for _, x := range [][2]string{
		{"", ""}, {"a;b", "a;b"}, {";", ";"}, {"#x41;", "#x41;"}, {"<>\"'", "<>\"'"},
		{"&amp;", "&"}, {"&lt;", "<"}, {"&gt;", ">"}, {"&quot;", "\""}, {"&apos;", "'"},
		{"&#x41;&#066;&apos;", "AB'"}, {"&amp;lt;", "&lt;"}, {"&amp;;", "&;"}, {"&amp;amp;amp;", "&amp;amp;"},
		{"a&lt;b&gt;c", "a<b>c"}, {"&lt;&lt;", "<<"}, {"&#38;lt;", "&lt;"},
		{"&#9;&#10;&#13;", "\t\n\r"}, {"&#x9;&#xa;&#xA;&#xd;&#xD;", "\t\n\n\r\r"}, {"&#x20ac;&#x20AC;&#8364;", "€€€"},
		{"&#xAbCd;", "\uABCD"}, {"&#xfFfD;", "\uFFFD"},
		{"&#" + strings.Repeat("0", 1000) + "65;", "A"}, {"&#x" + strings.Repeat("0", 1000) + "41;", "A"},
		{"\x00\xFF&amp;\xC3", "\x00\xFF&\xC3"}, {"\xC3&#xE9;", "\xC3é"},
	} {
		if got, e, at := text.Unescape(x[0]); got != x[1] || e != api.OK || at != 0 {
			t.Errorf("Unescape(%.60q) = %q, %d, %d; want %q", x[0], got, e, at, x[1])
		}
	}
}

// P2.7: what is no entity, alone and behind others, and that the first one's place is told.
func TestUnescapeNoEntity(t *testing.T) {
	for _, s := range []string{
		"&", "&;", "&b", "&b;", "&amp", "&amp ;", "& amp;", "&Amp;", "&AMP;", "&am;", "&ampp;", "&apo;", "&quote;", "&nbsp;", "&&amp;", "&amp&amp;", "&lt<;",
		"&#", "&#;", "&#x", "&#x;", "&#X41;", "&#x41", "&#65", "&#xg;", "&#x4g;", "&#xG;", "&#x4 1;", "&#6a;", "&#a;", "&#-9;", "&#+9;", "&#x-9;", "&# 9;", "&#9 ;", "&#xx41;", "&#0x41;",
		"&#6/;", "&#6:;", "&#x`;", "&#x@;", "&#0;", "&#00;", "&#x0;", "&#1;", "&#8;", "&#11;", "&#12;", "&#14;", "&#31;", "&#xB;", "&#x1f;",
		"&#55296;", "&#57343;", "&#xD800;", "&#xDFFF;", "&#65534;", "&#65535;", "&#xFFFE;", "&#xFFFF;", "&#1114112;", "&#x110000;",
		"&#99999999999999999999;", "&#4294967361;", "&#18446744073709551681;", "&#x100000041;", "&#x10000000000000041;", "&#x" + strings.Repeat("f", 1000) + ";", "&#1" + strings.Repeat("0", 1000) + ";",
		"&\xFF;", "&#\xFF;",
	} {
		for _, ahead := range []string{"", "a", "a\x00;é", "&lt;", "&#65;&#x41;x"} {
			for _, behind := range []string{"", "a", "&"} {
				if got, e, at := text.Unescape(ahead + s + behind); got != "" || e != api.ErrEntity || at != len(ahead) {
					t.Errorf("Unescape(%.60q) = %q, %d, %d; want the place %d", ahead+s+behind, got, e, at, len(ahead))
				}
			}
		}
	}
}

// P2.7: every number up to one beyond the greatest, in decimal and in hex of either case.
func TestUnescapeNumbers(t *testing.T) {
	hold := func(s string, n int) {
		want, err := string(rune(n)), api.OK
		if !isXMLNumber(n) {
			want, err = "", api.ErrEntity
		}
		if got, e, at := text.Unescape(s); got != want || e != err || at != 0 {
			t.Fatalf("Unescape(%q) = %q, %d, %d; want %q, %d", s, got, e, at, want, err)
		}
	}
	for n := 0; n <= 1114113; n++ {
		digits := strconv.FormatInt(int64(n), 16)
		hold("&#x"+digits+";", n)
		if n < 70000 || n > 1114000 {
			hold("&#"+strconv.Itoa(n)+";", n)
			hold("&#x"+strings.ToUpper(digits)+";", n)
			hold("&#00"+strconv.Itoa(n)+";", n)
		}
	}
}

// manyTexts are texts with all bytes in many neighbourhoods.
func manyTexts() []string {
	all := make([]byte, 256)
	for i := range all {
		all[i] = byte(i)
	}
	texts := []string{"", string(all), "&amp;", "&#13;", "&&;;", "a<b>&\"'\n\r\t", "\\x41", "\"\\\"", "é€", strings.Repeat("&\\\"", 1000)}
	for a := range 256 {
		for _, b := range []byte("&<>\"'#;x\\n4\n\r\t\x00\x7F\xFF") {
			texts = append(texts, string([]byte{byte(a), b}), string([]byte{b, byte(a)}), string([]byte{b, byte(a), b, 'z'}))
		}
	}
	return texts
}

// P2.6, P2.7: Unescape is Escape's way back.
func TestEscapeAndBack(t *testing.T) {
	for _, s := range manyTexts() {
		for _, attr := range []bool{false, true} {
			if got, e, at := text.Unescape(text.Escape(s, attr)); got != s || e != api.OK || at != 0 {
				t.Errorf("of %q, %v, came back %q, %d, %d", s, attr, got, e, at)
			}
		}
	}
}

// P2.8: each byte, and the example.
func TestQuote(t *testing.T) {
	marks := map[byte]string{'\\': `\\`, '"': `\"`, '\n': `\n`, '\r': `\r`, '\t': `\t`}
	for c := range 256 {
		want, ok := marks[byte(c)]
		switch {
		case ok:
		case c >= 32 && c <= 126:
			want = string(rune(c))
		default:
			want = `\x` + hex.EncodeToString([]byte{byte(c)})
		}
		b := string([]byte{byte(c)})
		if got := text.Quote(b + "a" + b); got != `"`+want+"a"+want+`"` {
			t.Errorf("Quote of the byte %#x: %s", c, got)
		}
	}
	if got := text.Quote("a\"\n\x00\xFFé"); got != `"a\"\n\x00\xff\xc3\xa9"` {
		t.Errorf("Quote: %s", got)
	}
	if got := text.Quote(""); got != `""` {
		t.Errorf("Quote of nothing: %s", got)
	}
}

// P2.9: texts that are, and that what follows isn't looked at.
func TestUnquote(t *testing.T) {
	for _, x := range [][2]string{
		{`""`, ""}, {`"a"`, "a"}, {`"a\x41"`, "aA"}, {`"\\"`, "\\"}, {`"\""`, "\""}, {`"\n\r\t"`, "\n\r\t"}, {`"\\n"`, `\n`},
		{`"\x00\xff\xFF\xaB\xBa"`, "\x00\xFF\xFF\xAB\xBA"}, {`"\x4142"`, "A42"}, {"\"\x7F\x80\xFF é\"", "\x7F\x80\xFF é"}, {`"&amp;'/"`, "&amp;'/"},
	} {
		for _, behind := range []string{"", "x", `"`, `"b"`, "\n", `\`, "\x00"} {
			if got, n, e := text.Unquote(x[0] + behind); got != x[1] || n != len(x[0]) || e != api.OK {
				t.Errorf("Unquote(%q) = %q, %d, %d; want %q, %d", x[0]+behind, got, n, e, x[1], len(x[0]))
			}
		}
	}
}

// P2.9: what is no text in quotes, and the place.
func TestUnquoteFaults(t *testing.T) {
	for _, x := range []struct {
		s  string
		at int
	}{
		{``, 0}, {`a`, 0}, {` "a"`, 0}, {`'a'`, 0}, {`\"a"`, 0}, {"\n", 0},
		{`"`, 1}, {`"a`, 2}, {`"abc\"`, 6}, {`"\\`, 3},
		{`"\`, 2}, {`"ab\`, 4}, {`"\q`, 2}, {`"\q"`, 2}, {`"a\N"`, 3}, {`"a\X41"`, 3}, {`"a\0"`, 3}, {`"a\'"`, 3}, {"\"\\\n\"", 2}, {"\"\\\xFF\"", 2}, {`"\n\r\t\u0041"`, 8},
		{`"\x`, 3}, {`"\x4`, 4}, {`"\x"`, 3}, {`"\x4"`, 4}, {`"\x4g`, 4}, {`"\x4g"`, 4}, {`"\xg4"`, 3}, {`"\xgg"`, 3}, {`"\x 4"`, 3}, {`"\x\x41"`, 3}, {`"ab\x41\x4`, 10}, {`"\x4142\xfG"`, 10},
		{"\"\n", 1}, {"\"\n\"", 1}, {"\"\x00\"", 1}, {"\"\x1F\"", 1}, {"\"ab\t\"", 3}, {"\"ab\rc\"", 3}, {"\"\\n\x01\"", 3},
	} {
		if got, at, e := text.Unquote(x.s); got != "" || at != x.at || e != api.ErrQuote {
			t.Errorf("Unquote(%q) = %q, %d, %d; want the place %d", x.s, got, at, e, x.at)
		}
	}
}

// P2.9: each byte as an item, behind \, and as a digit.
func TestUnquoteByteByByte(t *testing.T) {
	marks := map[byte]string{'\\': "\\", '"': "\"", 'n': "\n", 'r': "\r", 't': "\t"}
	hold := func(s, want string, good bool, at int) {
		n, err := len(s), api.OK
		if !good {
			want, n, err = "", at, api.ErrQuote
		}
		if got, read, e := text.Unquote(s); got != want || read != n || e != err {
			t.Errorf("Unquote(%q) = %q, %d, %d; want %q, %d, %d", s, got, read, e, want, n, err)
		}
	}
	for c := range 256 {
		b := string([]byte{byte(c)})
		if b != `"` && b != `\` {
			hold(`"a`+b+`b"`, "a"+b+"b", c >= 32, 2)
		}
		if b != "x" {
			meant, ok := marks[byte(c)]
			hold(`"a\`+b+`b"`, "a"+meant+"b", ok, 3)
		}
		first, err := strconv.ParseUint(b+"5", 16, 8)
		hold(`"\x`+b+`5"`, string([]byte{byte(first)}), err == nil, 3)
		second, err := strconv.ParseUint("5"+b, 16, 8)
		hold(`"\x5`+b+`"`, string([]byte{byte(second)}), err == nil, 4)
	}
}

// P2.8, P2.9: Unquote is Quote's way back, and each piece of it that is shorter ends too early.
func TestQuoteAndBack(t *testing.T) {
	for _, s := range manyTexts() {
		q := text.Quote(s)
		if got, n, e := text.Unquote(q + "\"\\"); got != s || n != len(q) || e != api.OK {
			t.Errorf("of %q came back %q, %d, %d", s, got, n, e)
		}
		for cut := range min(len(q), 40) {
			if got, at, e := text.Unquote(q[:cut]); got != "" || at != cut || e != api.ErrQuote {
				t.Errorf("Unquote(%q) = %q, %d, %d", q[:cut], got, at, e)
			}
		}
	}
}

// P2.10: every pair of bytes, read as digits.
func TestHexPairs(t *testing.T) {
	for c := range 256 {
		b := string([]byte{byte(c)})
		if got := text.Hex("z" + b); got != "7a"+hex.EncodeToString([]byte(b)) {
			t.Errorf("Hex of the byte %#x: %q", c, got)
		}
		for d := range 256 {
			s := string([]byte{byte(c), byte(d)})
			want, err, wantAt := "a", api.OK, 0
			n, fault := strconv.ParseUint(s, 16, 8)
			switch {
			case fault == nil:
				want += string([]byte{byte(n)})
			case strings.Contains("0123456789abcdefABCDEF", b):
				want, err, wantAt = "", api.ErrArg, 3
			default:
				want, err, wantAt = "", api.ErrArg, 2
			}
			if got, e, at := text.Unhex("61" + s); got != want || e != err || at != wantAt {
				t.Errorf("Unhex(%q) = %q, %d, %d; want %q, %d, %d", "61"+s, got, e, at, want, err, wantAt)
			}
		}
	}
}

// P2.10: examples, odd lengths, and which fault comes first.
func TestUnhex(t *testing.T) {
	for _, x := range []struct {
		s, want string
		e       api.Errno
		at      int
	}{
		{"", "", api.OK, 0}, {"4fF0", "O\xF0", api.OK, 0}, {"00ff", "\x00\xFF", api.OK, 0}, {"abcdefABCDEF", "\xAB\xCD\xEF\xAB\xCD\xEF", api.OK, 0},
		{"4", "", api.ErrArg, 1}, {"414", "", api.ErrArg, 3}, {"41414", "", api.ErrArg, 5},
		{"4g", "", api.ErrArg, 1}, {"g4", "", api.ErrArg, 0}, {"4g4", "", api.ErrArg, 1}, {"g", "", api.ErrArg, 0}, {"41g", "", api.ErrArg, 2}, {"4 1", "", api.ErrArg, 1}, {" 41", "", api.ErrArg, 0}, {"0x41", "", api.ErrArg, 1}, {"41\n", "", api.ErrArg, 2}, {"4g4g", "", api.ErrArg, 1},
	} {
		if got, e, at := text.Unhex(x.s); got != x.want || e != x.e || at != x.at {
			t.Errorf("Unhex(%q) = %q, %d, %d; want %q, %d, %d", x.s, got, e, at, x.want, x.e, x.at)
		}
	}
	if text.Hex("") != "" || text.Hex("A\xFF") != "41ff" {
		t.Error("Hex")
	}
}

// P2.10: Unhex is Hex's way back, of capitals too.
func TestHexAndBack(t *testing.T) {
	for _, s := range manyTexts() {
		for _, h := range []string{text.Hex(s), strings.ToUpper(text.Hex(s))} {
			if got, e, at := text.Unhex(h); got != s || e != api.OK || at != 0 {
				t.Errorf("of %q came back %q, %d, %d", s, got, e, at)
			}
		}
	}
}

// The chapter's limits: texts of many bytes take time that grows with their length alone.
func TestLongTexts(t *testing.T) {
	const n = 1 << 20
	long := strings.Repeat("&<\"\r\xFF€a", n/9)
	if got, e, _ := text.Unescape(text.Escape(long, true)); got != long || e != api.OK {
		t.Error("Escape and back")
	}
	if got, _, e := text.Unquote(text.Quote(long)); got != long || e != api.OK {
		t.Error("Quote and back")
	}
	if got, e, _ := text.Unhex(text.Hex(long)); got != long || e != api.OK {
		t.Error("Hex and back")
	}
	if e, at := text.Chars(strings.Repeat("€a", n/4) + "\xFF"); e != api.ErrUTF8 || at != n {
		t.Errorf("Chars: %d, %d", e, at)
	}
	for _, s := range []string{strings.Repeat("&amp;", n/5) + "&" + strings.Repeat("a", n), strings.Repeat("a;", n/2) + "&#" + strings.Repeat("0", n)} {
		if _, e, at := text.Unescape(s); e != api.ErrEntity || at != strings.LastIndexByte(s, '&') {
			t.Errorf("Unescape: %d, %d", e, at)
		}
	}
}
