package xmllex_test

import (
	"math"
	"math/rand"
	"slices"
	"strings"
	"testing"

	"stencil/api"
	"stencil/text"
	"stencil/xmllex"
)

func open(name string, at int) api.XTok   { return api.XTok{Kind: api.XOpen, Name: name, At: at} }
func shut(name string, at int) api.XTok   { return api.XTok{Kind: api.XClose, Name: name, At: at} }
func end(at int) api.XTok                 { return api.XTok{Kind: api.XEnd, At: at} }
func empty(at int) api.XTok               { return api.XTok{Kind: api.XEmpty, At: at} }
func chars(value string, at int) api.XTok { return api.XTok{Kind: api.XText, Value: value, At: at} }
func note(value string, at int) api.XTok  { return api.XTok{Kind: api.XComment, Value: value, At: at} }
func decl(value string) api.XTok          { return api.XTok{Kind: api.XDecl, Value: value} }
func attr(name, value string, at int) api.XTok {
	return api.XTok{Kind: api.XAttr, Name: name, Value: value, At: at}
}

func scanned(s string) []api.XTok {
	var ts []api.XTok
	for t := range xmllex.Scan(s) {
		ts = append(ts, t)
	}
	return ts
}

// holdTokens holds Tokens and Scan of a text against the pieces that stand ahead of its first fault, and the fault.
func holdTokens(t *testing.T, s string, pieces []api.XTok, err api.Errno, at int) {
	t.Helper()
	got, gotErr, gotAt := xmllex.Tokens(s)
	if gotErr != err || gotAt != at {
		t.Errorf("Tokens(%.80q): error %d at %d; want %d at %d", s, gotErr, gotAt, err, at)
	}
	if err != api.OK && got != nil {
		t.Errorf("Tokens(%.80q): %d pieces beside an error", s, len(got))
	}
	if err == api.OK && !slices.Equal(got, pieces) {
		t.Errorf("Tokens(%.80q) = %v; want %v", s, got, pieces)
	}
	if given := scanned(s); !slices.Equal(given, pieces) {
		t.Errorf("Scan(%.80q) = %v; want %v", s, given, pieces)
	}
}

// P4.1: the chapter's texts that are of the subset, and others of each kind.
func TestTokens(t *testing.T) {
	for _, c := range []struct {
		s      string
		pieces []api.XTok
	}{
		{"", nil},
		{"<a b='1'/>", []api.XTok{open("a", 0), attr("b", "1", 3), empty(8)}},
		{"x &lt; y", []api.XTok{chars("x < y", 0)}},
		{"<a>1<!--c--></a >", []api.XTok{open("a", 0), end(2), chars("1", 3), note("c", 4), shut("a", 12)}},
		{"<?xml version='1.0'?><a/>", []api.XTok{decl(" version='1.0'"), open("a", 21), empty(23)}},
		{"a>b", []api.XTok{chars("a>b", 0)}},
		{"]]>", []api.XTok{chars("]]>", 0)}},
		{"<a b = '1' >", []api.XTok{open("a", 0), attr("b", "1", 3), end(11)}},
		{" \r\n\t", []api.XTok{chars(" \r\n\t", 0)}},
		{"<a/><b></c>", []api.XTok{open("a", 0), empty(2), open("b", 4), end(6), shut("c", 7)}},
		{"</a></b\r\n\t >", []api.XTok{shut("a", 0), shut("b", 4)}},
		{"<a\tb\n=\r\"1\"\r\n c='2'\t/>", []api.XTok{open("a", 0), attr("b", "1", 3), attr("c", "2", 13), empty(19)}},
		{"<a b='' c=\"\">", []api.XTok{open("a", 0), attr("b", "", 3), attr("c", "", 8), end(12)}},
		{"<a b='\"' c=\"'\"/>", []api.XTok{open("a", 0), attr("b", "\"", 3), attr("c", "'", 9), empty(14)}},
		{"<a b='/>' b='=&amp;\n'/>", []api.XTok{open("a", 0), attr("b", "/>", 3), attr("b", "=&\n", 10), empty(21)}},
		{"<sbe:a_1-.x :='&#65;&#x20AC;'>", []api.XTok{open("sbe:a_1-.x", 0), attr(":", "A€", 12), end(29)}},
		{"&amp;&lt;&gt;&quot;&apos;\"'=/", []api.XTok{chars("&<>\"'\"'=/", 0)}},
		{"<!----><!--->--><!-- - - -->", []api.XTok{note("", 0), note("->", 7), note(" - - ", 16)}},
		{"<!--&x;<a b='--></a>", []api.XTok{note("&x;<a b='", 0), shut("a", 16)}},
		{"a<!--b-->c", []api.XTok{chars("a", 0), note("b", 1), chars("c", 9)}},
		{"\ufeff<a/>", []api.XTok{chars("\ufeff", 0), open("a", 3), empty(5)}},
	} {
		holdTokens(t, c.s, c.pieces, api.OK, 0)
	}
}

// P4.1, P4.2: the chapter's faults, and others, with what Scan gives ahead of each.
func TestFaults(t *testing.T) {
	a := []api.XTok{open("a", 0)}
	ab := append(slices.Clone(a), attr("b", "1", 3))
	for _, c := range []struct {
		s      string
		pieces []api.XTok
		err    api.Errno
		at     int
	}{
		{"<", nil, api.ErrXMLEnd, 1},
		{"<a", a, api.ErrXMLEnd, 2},
		{"< a>", nil, api.ErrXMLName, 1},
		{"<1a>", nil, api.ErrXMLName, 1},
		{"<1", nil, api.ErrXMLName, 1},
		{"<>", nil, api.ErrXMLName, 1},
		{"<=", nil, api.ErrXMLName, 1},
		{"<<a>", nil, api.ErrXMLName, 1},
		{"<a\x7f b='1'>", nil, api.ErrXMLName, 1},
		{"<a b>", a, api.ErrXML, 4},
		{"<a b", a, api.ErrXMLEnd, 4},
		{"<a b ", a, api.ErrXMLEnd, 5},
		{"<a b c='1'>", a, api.ErrXML, 5},
		{"<a b/>", a, api.ErrXML, 4},
		{"<a b=", a, api.ErrXMLEnd, 5},
		{"<a b= ", a, api.ErrXMLEnd, 6},
		{"<a b=1>", a, api.ErrXML, 5},
		{"<a b= >", a, api.ErrXML, 6},
		{"<a b=='1'>", a, api.ErrXML, 5},
		{"<a b='", a, api.ErrXMLEnd, 6},
		{"<a b='1", a, api.ErrXMLEnd, 7},
		{"<a b='1\">", a, api.ErrXMLEnd, 9},
		{"<a b='1'", ab, api.ErrXMLEnd, 8},
		{"<a b='<'>", a, api.ErrXML, 6},
		{"<a b='1<", a, api.ErrXML, 7},
		{"<a b='1'c='2'>", ab, api.ErrXML, 8},
		{"<a b='1'1>", ab, api.ErrXML, 8},
		{"<a b='1'''>", ab, api.ErrXML, 8},
		{"<a b='1' =>", ab, api.ErrXMLName, 9},
		{"<a b='1'/", ab, api.ErrXMLEnd, 9},
		{"<a b='1' c=2>", ab, api.ErrXML, 11},
		{"<a =1>", a, api.ErrXMLName, 3},
		{"<a 1b='x'>", a, api.ErrXMLName, 3},
		{"<a 1b", a, api.ErrXMLName, 3},
		{"<a <b>", a, api.ErrXMLName, 3},
		{"<a &amp;>", a, api.ErrXMLName, 3},
		{"<a ", a, api.ErrXMLEnd, 3},
		{"<a=", a, api.ErrXML, 2},
		{"<a<", a, api.ErrXML, 2},
		{"<a'", a, api.ErrXML, 2},
		{"<a&", a, api.ErrXML, 2},
		{"<a/", a, api.ErrXMLEnd, 3},
		{"<a/ >", a, api.ErrXML, 3},
		{"<a //>", a, api.ErrXML, 4},
		{"é<é", []api.XTok{chars("é", 0)}, api.ErrXMLName, 3},
		{"</", nil, api.ErrXMLEnd, 2},
		{"</ a>", nil, api.ErrXMLName, 2},
		{"</>", nil, api.ErrXMLName, 2},
		{"</1", nil, api.ErrXMLName, 2},
		{"</a", nil, api.ErrXMLEnd, 3},
		{"</a ", nil, api.ErrXMLEnd, 4},
		{"</a b>", nil, api.ErrXML, 4},
		{"</a/>", nil, api.ErrXML, 3},
		{"</a='1'>", nil, api.ErrXML, 3},
		{"<!", nil, api.ErrXMLEnd, 2},
		{"<!DOCTYPE a>", nil, api.ErrXML, 2},
		{"<![CDATA[x]]>", nil, api.ErrXML, 2},
		{"<!>", nil, api.ErrXML, 2},
		{"<!-x", nil, api.ErrXML, 3},
		{"<!-", nil, api.ErrXMLEnd, 3},
		{"<!--", nil, api.ErrXMLEnd, 4},
		{"<!-->", nil, api.ErrXMLEnd, 5},
		{"<!--->", nil, api.ErrXMLEnd, 6},
		{"<!----", nil, api.ErrXMLEnd, 6},
		{"<!----->", nil, api.ErrXMLComment, 4},
		{"<!-----", nil, api.ErrXMLComment, 4},
		{"<!--a--b-->", nil, api.ErrXMLComment, 5},
		{"<!--a--->", nil, api.ErrXMLComment, 5},
		{"<!--a--", nil, api.ErrXMLEnd, 7},
		{"<!--a-", nil, api.ErrXMLEnd, 6},
		{"<!--a-- >", nil, api.ErrXMLComment, 5},
		{"a&b;", nil, api.ErrEntity, 1},
		{"a&amp;b&c<d", nil, api.ErrEntity, 7},
		{"a&amp<;", nil, api.ErrEntity, 1},
		{"&#0;", nil, api.ErrEntity, 0},
		{"<a b='x&y;'>", a, api.ErrEntity, 7},
		{"<a b='&amp;&'>", a, api.ErrEntity, 11},
		{"<a b='&x;<'>", a, api.ErrXML, 9},
		{"<a b='&x;", a, api.ErrXMLEnd, 9},
		{"<a b='&x;' c=1>", a, api.ErrEntity, 6},
		{"<a b='&' <", a, api.ErrEntity, 6},
		{"<a b='1' 2='&'>", ab, api.ErrXMLName, 9},
		{"<?php?>", nil, api.ErrXMLDecl, 0},
		{"<?", nil, api.ErrXMLDecl, 0},
		{"<?xm", nil, api.ErrXMLDecl, 0},
		{"<?XML version='1.0'?>", nil, api.ErrXMLDecl, 0},
		{" <?xml version='1.0'?>", []api.XTok{chars(" ", 0)}, api.ErrXMLDecl, 1},
		{"<?xml version='1.0'?><?xml version='1.0'?>", []api.XTok{decl(" version='1.0'")}, api.ErrXMLDecl, 21},
		{"<a><?b?>", []api.XTok{open("a", 0), end(2)}, api.ErrXMLDecl, 3},
		{"ab\x00", nil, api.ErrXMLChar, 2},
		{"<1\xff", nil, api.ErrUTF8, 2},
		{"<?xml\x1f", nil, api.ErrXMLChar, 5},
		{"<a b='1'/>\xef\xbf\xbe\xff", nil, api.ErrXMLChar, 10},
		{"<!--\xc3", nil, api.ErrUTF8, 4},
	} {
		holdTokens(t, c.s, c.pieces, c.err, c.at)
	}
}

// spacings are rows of blanks; the first one has none.
var spacings = []string{"", " ", "\t", "\n", "\r", " \t\r\n "}

// declarations are the bodies of XML declarations, with all their parts and without, in both quotes.
func declarations() []string {
	var bodies []string
	for i, gap := range spacings[1:] {
		for _, equal := range []string{"=", " =", "=\t", "\r\n=  "} {
			for _, q := range []string{"'", "\""} {
				version := gap + "version" + equal + q + "1.0" + q
				encoding := gap + "encoding" + equal + q + []string{"utf-8", "UTF-8", "Utf-8", "uTf-8", "utF-8"}[i] + q
				yes := gap + "standalone" + equal + q + "yes" + q
				no := gap + "standalone" + equal + q + "no" + q
				for _, body := range []string{version, version + encoding, version + yes, version + encoding + no} {
					bodies = append(bodies, body+spacings[i], body+gap)
				}
			}
		}
	}
	return bodies
}

// P4.1, P4.2, P4.3: XML declarations, whole and cut at each byte.
func TestDeclarations(t *testing.T) {
	for _, body := range declarations() {
		s := "<?xml" + body + "?>"
		holdTokens(t, s, []api.XTok{decl(body)}, api.OK, 0)
		holdTokens(t, s+"x", []api.XTok{decl(body), chars("x", len(s))}, api.OK, 0)
		holdTokens(t, "x"+s, []api.XTok{chars("x", 0)}, api.ErrXMLDecl, 1)
		holdTokens(t, s+s, []api.XTok{decl(body)}, api.ErrXMLDecl, len(s))
		for n := len("<?"); n < len(s); n++ {
			holdTokens(t, s[:n], nil, api.ErrXMLDecl, 0)
		}
		holdPrint(t, []api.XTok{decl(body)}, s, api.OK, 0)
	}
}

// badDeclarations can't stand between <?xml and ?>.
var badDeclarations = []string{
	"", " ", "version='1.0'", " version", " version=", " version='", " version='1.0", " version='1.0\"", " version=1.0", " version='1.1'", " version=' 1.0'", " version='1.0 '", " version=''",
	" Version='1.0'", " xversion='1.0'", " version version='1.0'", " version=='1.0'", " = '1.0'", " '1.0'", " encoding='utf-8'", " standalone='yes'", " encoding='utf-8' version='1.0'",
	" version='1.0' version='1.0'", " version='1.0'encoding='utf-8'", " version='1.0' encoding='utf8'", " version='1.0' encoding='latin1'", " version='1.0' encoding='utf-8 '", " version='1.0' encoding=utf-8", " version='1.0' Encoding='utf-8'",
	" version='1.0' encoding='utf-8\"", " version='1.0' encoding='utf-8' encoding='utf-8'", " version='1.0' encoding='utf-8'standalone='yes'", " version='1.0'standalone='yes'", " version='1.0' standalone='Yes'", " version='1.0' standalone='NO'", " version='1.0' standalone='yeſ'",
	" version='1.0' standalone=''", " version='1.0' standalone='yesno'", " version='1.0' standalone='yes' encoding='utf-8'", " version='1.0' standalone='yes' standalone='yes'", " version='1.0' x", " version='1.0' x='1'", " version='1.0'?", " version='1.0'?>", " version='1.0' >", " version='1.0'/",
	"\u00a0version='1.0'", "x version='1.0'", " version='1.0'\u00a0", " version='1.0'?><a/><?xml version='1.0'",
}

// P4.1, P4.3: what is no XML declaration.
func TestBadDeclarations(t *testing.T) {
	for _, body := range badDeclarations {
		// With ?> inside, the body is none, but a text may begin with a declaration and go on so.
		if !strings.Contains(body, "?>") {
			holdTokens(t, "<?xml"+body, nil, api.ErrXMLDecl, 0)
			holdTokens(t, "<?xml"+body+"?>", nil, api.ErrXMLDecl, 0)
		}
		holdPrint(t, []api.XTok{decl(body)}, "", api.ErrXMLDecl, 0)
	}
}

// mode is where the machine of the tests stands, which goes through a text byte by byte by the chapter's words.
type mode int

const (
	content mode = iota
	less
	bang
	bangHyphen
	comment
	hyphen
	hyphens
	openName
	behind
	apart
	slash
	attrName
	equal
	quote
	value
	shutName
	shutBlank
)

type machine struct {
	s      string
	mode   mode
	from   int  // of the piece
	row    int  // of the name, of the value, or of the hyphens
	mark   byte // of the value
	named  string
	pieces []api.XTok
}

// first tells the pieces ahead of a text's first fault, and the fault. Of an XML declaration it knows none.
func first(s string) ([]api.XTok, api.Errno, int) {
	if err, at := text.Chars(s); err != api.OK {
		return nil, err, at
	}
	m := machine{s: s}
	for at := range len(s) {
		if err, place := m.step(s[at], at); err != api.OK {
			return m.pieces, err, place
		}
	}
	err, place := m.finish()
	return m.pieces, err, place
}

func (m *machine) tell(t api.XTok) { m.pieces = append(m.pieces, t) }

// chars ends a row of text.
func (m *machine) chars(at int) (api.Errno, int) {
	if at == m.from {
		return api.OK, 0
	}
	s, err, place := text.Unescape(m.s[m.from:at])
	if err != api.OK {
		return err, m.from + place
	}
	m.tell(chars(s, m.from))
	return api.OK, 0
}

func (m *machine) finish() (api.Errno, int) {
	switch m.mode {
	case content:
		return m.chars(len(m.s))
	case openName, attrName, shutName:
		if m.row == len(m.s) {
			return api.ErrXMLEnd, len(m.s)
		}
		if !text.XMLName(m.s[m.row:]) {
			return api.ErrXMLName, m.row
		}
		if m.mode == openName {
			m.tell(open(m.s[m.row:], m.from))
		}
	}
	return api.ErrXMLEnd, len(m.s)
}

func isBlank(c byte) bool { return strings.IndexByte(" \t\r\n", c) >= 0 }

func (m *machine) must(c, wanted byte, at int, then mode) (api.Errno, int) {
	if c != wanted {
		return api.ErrXML, at
	}
	m.mode = then
	return api.OK, 0
}

// nameEnds takes the name's row that ends at a place.
func (m *machine) nameEnds(at int, then mode) (api.Errno, int) {
	m.named = m.s[m.row:at]
	if !text.XMLName(m.named) {
		return api.ErrXMLName, m.row
	}
	if m.mode == openName {
		m.tell(open(m.named, m.from))
	}
	m.mode = then
	return m.step(m.s[at], at)
}

func (m *machine) step(c byte, at int) (api.Errno, int) {
	inRow := !isBlank(c) && strings.IndexByte("<>/=\"'&", c) < 0
	switch m.mode {
	case content:
		if c == '<' {
			err, place := m.chars(at)
			m.mode, m.from = less, at
			return err, place
		}
	case less:
		switch c {
		case '/':
			m.mode, m.row = shutName, at+1
		case '!':
			m.mode = bang
		case '?':
			return api.ErrXMLDecl, m.from
		default:
			m.mode, m.row = openName, at
			return m.step(c, at)
		}
	case bang:
		return m.must(c, '-', at, bangHyphen)
	case bangHyphen:
		m.row = at + 1
		return m.must(c, '-', at, comment)
	case comment:
		if c == '-' {
			m.mode = hyphen
		}
	case hyphen:
		m.mode = comment
		if c == '-' {
			m.mode = hyphens
		}
	case hyphens:
		if c != '>' {
			return api.ErrXMLComment, at - 2
		}
		m.tell(note(m.s[m.row:at-2], m.from))
		m.mode, m.from = content, at+1
	case openName:
		if !inRow {
			return m.nameEnds(at, behind)
		}
	case shutName:
		if !inRow {
			return m.nameEnds(at, shutBlank)
		}
	case attrName:
		if !inRow {
			return m.nameEnds(at, equal)
		}
	default:
		return m.inTag(c, at)
	}
	return api.OK, 0
}

func (m *machine) inTag(c byte, at int) (api.Errno, int) {
	if isBlank(c) && m.mode != value && m.mode != slash {
		if m.mode == behind {
			m.mode = apart
		}
		return api.OK, 0
	}
	switch m.mode {
	case behind, apart:
		switch {
		case c == '>':
			m.tell(end(at))
			m.mode, m.from = content, at+1
		case c == '/':
			m.mode = slash
		case m.mode == behind:
			return api.ErrXML, at
		default:
			m.mode, m.row, m.from = attrName, at, at
			return m.step(c, at)
		}
	case slash:
		m.tell(empty(at - 1))
		m.from = at + 1
		err, place := m.must(c, '>', at, content)
		if err != api.OK {
			m.pieces = m.pieces[:len(m.pieces)-1]
		}
		return err, place
	case equal:
		return m.must(c, '=', at, quote)
	case quote:
		m.mark, m.row = c, at+1
		m.mode = value
		if c != '"' && c != '\'' {
			return api.ErrXML, at
		}
	case shutBlank:
		if c != '>' {
			return api.ErrXML, at
		}
		m.tell(shut(m.named, m.from))
		m.mode, m.from = content, at+1
	case value:
		if c == '<' {
			return api.ErrXML, at
		}
		if c == m.mark {
			s, err, place := text.Unescape(m.s[m.row:at])
			if err != api.OK {
				return err, m.row + place
			}
			m.tell(attr(m.named, s, m.from))
			m.mode = behind
		}
	}
	return api.OK, 0
}

func holdByMachine(t *testing.T, s string) {
	t.Helper()
	if strings.HasPrefix(s, "<?xml") {
		return
	}
	pieces, err, at := first(s)
	holdTokens(t, s, pieces, err, at)
}

// eachText goes through all texts of the alphabet's bytes of at most a length.
func eachText(alphabet string, most int, visit func(string)) {
	visit("")
	if most == 0 {
		return
	}
	for i := range len(alphabet) {
		eachText(alphabet, most-1, func(s string) { visit(alphabet[i:i+1] + s) })
	}
}

// fronts are beginnings behind which a tag, a comment or text can go on in all ways.
var fronts = []string{"", "x", "&", "<", "<a", "<a ", "<a/", "<a b", "<a b ", "<a b=", "<a b= ", "<a b='", "<a b=\"&x;", "<a b='1'", "<a b='1' ", "</", "</a", "</a ", "<!", "<!-", "<!--", "<!---", "<!--a--", "<a><!-- --></a>"}

// P4.1, P4.2: behind each beginning every byte, and characters of more bytes.
func TestEachByte(t *testing.T) {
	for _, front := range fronts {
		for c := range 256 {
			for _, back := range []string{"", ">", "'>", "b='1'>", "='1'>", "-->", " x"} {
				holdByMachine(t, front+string([]byte{byte(c)})+back)
				holdByMachine(t, front+string(rune(c))+back)
			}
		}
	}
}

// P4.1, P4.2: behind each beginning all short texts.
func TestAllShortTexts(t *testing.T) {
	for _, front := range fronts {
		eachText("<>/=\"'& \na1!-?", 3, func(s string) { holdByMachine(t, front+s) })
		if t.Failed() {
			return
		}
	}
	eachText("<>/='& a1!-?", 5, func(s string) { holdByMachine(t, s) })
}

// makeText puts a text of the subset together, with its pieces.
func makeText(r *rand.Rand, things int) (string, []api.XTok) {
	var b strings.Builder
	var pieces []api.XTok
	names := []string{"a", "b1", "sbe:message", "_", ":", "x-y.z"}
	raws := []string{"", "x", " ", "&amp;", "&#x41;&#10;", "é€", "a>b", "\r\n", "&lt;!--", "/>", "= "}
	name := func() string { return names[r.Intn(len(names))] }
	gap := func(least int) string { return spacings[least+r.Intn(len(spacings)-least)] }
	put := func(s string) { b.WriteString(s) }
	add := func(p api.XTok) { p.At = b.Len(); pieces = append(pieces, p) }
	if r.Intn(3) == 0 {
		body := declarations()[r.Intn(100)]
		add(decl(body))
		put("<?xml" + body + "?>")
	}
	for range things {
		switch r.Intn(4) {
		case 0:
			raw := raws[r.Intn(len(raws))] + raws[r.Intn(len(raws))]
			if raw == "" || len(pieces) > 0 && pieces[len(pieces)-1].Kind == api.XText {
				continue
			}
			s, _, _ := text.Unescape(raw)
			add(chars(s, 0))
			put(raw)
		case 1:
			s := []string{"", "-a", " - ", ">", "&<a b='"}[r.Intn(5)]
			add(note(s, 0))
			put("<!--" + s + "-->")
		case 2:
			s := name()
			add(shut(s, 0))
			put("</" + s + gap(0) + ">")
		case 3:
			s := name()
			add(open(s, 0))
			put("<" + s)
			for range r.Intn(3) {
				put(gap(1))
				key, raw, q := name(), raws[r.Intn(len(raws))], []string{"'", "\""}[r.Intn(2)]
				plain, _, _ := text.Unescape(raw)
				add(attr(key, plain, 0))
				put(key + gap(0) + "=" + gap(0) + q + raw + q)
			}
			put(gap(0))
			if r.Intn(2) == 0 {
				add(end(0))
				put(">")
			} else {
				add(empty(0))
				put("/>")
			}
		}
	}
	return b.String(), pieces
}

// P4.1, P4.2, P4.4: long texts whose pieces are known; printed, they have the same pieces.
func TestMadeTexts(t *testing.T) {
	r := rand.New(rand.NewSource(4))
	for range 3000 {
		s, pieces := makeText(r, r.Intn(12))
		holdTokens(t, s, pieces, api.OK, 0)
		back, err, n := xmllex.Print(pieces)
		if err != api.OK || n != 0 {
			t.Errorf("Print(%v): error %d at %d", pieces, err, n)
		}
		again, err, at := xmllex.Tokens(back)
		if err != api.OK || at != 0 || !sameButAt(again, pieces) {
			t.Errorf("Tokens(%q) = %v, %d, %d; want %v", back, again, err, at, pieces)
		}
	}
}

// P4.1, P4.2: texts of the subset cut at each byte, and with a byte left out, put in, or another one.
func TestBrokenTexts(t *testing.T) {
	r := rand.New(rand.NewSource(5))
	for range 150 {
		s, _ := makeText(r, 6)
		for at := range len(s) {
			holdByMachine(t, s[:at])
			holdByMachine(t, s[:at]+s[at+1:])
			for _, c := range []string{"<", ">", "'", "\"", "&", " ", "-", "/", "=", "1", "a", "?", "!", ";"} {
				holdByMachine(t, s[:at]+c+s[at:])
				holdByMachine(t, s[:at]+c+s[at+1:])
			}
		}
		if t.Failed() {
			return
		}
	}
}

// P4.1, P4.2: the length comes ahead of the characters, they ahead of the pieces.
func TestSize(t *testing.T) {
	most := strings.Repeat("x", api.MaxInput)
	holdTokens(t, most, []api.XTok{chars(most, 0)}, api.OK, 0)
	holdTokens(t, most+"x", nil, api.ErrXMLSize, api.MaxInput)
	holdTokens(t, "\x00<"+most, nil, api.ErrXMLSize, api.MaxInput)
	holdTokens(t, "\xff"+most[1:], nil, api.ErrUTF8, 0)
	holdTokens(t, "<"+most[2:]+"\x01", nil, api.ErrXMLChar, api.MaxInput-1)
	holdTokens(t, most[3:]+"é<", []api.XTok{chars(most[3:]+"é", 0)}, api.ErrXMLEnd, api.MaxInput)
	holdTokens(t, most[1:]+"é", nil, api.ErrXMLSize, api.MaxInput)
	body := " version='1.0'" + strings.Repeat(" ", api.MaxInput-21)
	holdTokens(t, "<?xml"+body+"?>", []api.XTok{decl(body)}, api.OK, 0)
	holdTokens(t, "<?xml "+body+"?>", nil, api.ErrXMLSize, api.MaxInput)
}

// P4.1: the work doesn't grow faster than the text.
func TestManyPieces(t *testing.T) {
	for _, c := range []struct {
		front, part string
		each        int
		err         api.Errno
	}{
		{"", "<a>", 2, api.OK}, {"", "</a>", 1, api.OK}, {"<a", " b=''", 1, api.ErrXMLEnd}, {"<a", " b=\"'&gt;\"", 1, api.ErrXMLEnd},
		{"", "<!---->", 1, api.OK}, {"", "x<a/>", 3, api.OK}, {"", "&amp;<a/>", 3, api.OK}, {"<a b='", "<!--", 0, api.ErrXML},
	} {
		n := (api.MaxInput - len(c.front)) / len(c.part)
		s := c.front + strings.Repeat(c.part, n)
		ts, err, _ := xmllex.Tokens(s)
		if err != c.err || err == api.OK && len(ts) != n*c.each {
			t.Errorf("Tokens of many %q: %d pieces, error %d", c.part, len(ts), err)
		}
	}
}

// P4.2: a scan may be stopped anywhere, gone through again, and inside itself.
func TestScan(t *testing.T) {
	for _, s := range []string{"", "<a b='1' c='2'>x<!--y--></a>", "<a b='1' c=2>", "<?xml version=\"1.0\"?>\n<a/>", "a<", "\x00"} {
		all, _, _ := first(strings.TrimPrefix(s, "<?xml version=\"1.0\"?>"))
		if strings.HasPrefix(s, "<?xml") {
			all = []api.XTok{decl(" version=\"1.0\""), chars("\n", 21), open("a", 22), empty(24)}
		}
		seq := xmllex.Scan(s)
		for stop := range len(all) + 1 {
			var got []api.XTok
			for p := range seq {
				if len(got) == stop {
					break
				}
				got = append(got, p)
			}
			if !slices.Equal(got, all[:stop]) {
				t.Errorf("Scan(%q) stopped at %d: %v", s, stop, got)
			}
		}
		outer := 0
		for p := range seq {
			if p != all[outer] {
				t.Errorf("Scan(%q): piece %d is %v", s, outer, p)
			}
			outer++
			inner := slices.Collect(seq)
			if !slices.Equal(inner, all) {
				t.Errorf("Scan(%q) inside itself: %v", s, inner)
			}
		}
		if outer != len(all) {
			t.Errorf("Scan(%q): %d pieces; want %d", s, outer, len(all))
		}
	}
}

// P4.2: what the caller's own loop panics with is not caught by the scan.
func TestScanLetsPanicsThrough(t *testing.T) {
	defer func() {
		if got := recover(); got != "mine" {
			t.Errorf("caught %v", got)
		}
	}()
	for range xmllex.Scan("<a>") {
		panic("mine")
	}
}

func sameButAt(a, b []api.XTok) bool {
	return slices.EqualFunc(a, b, func(x, y api.XTok) bool {
		x.At = y.At
		return x == y
	})
}

func holdPrint(t *testing.T, ts []api.XTok, s string, err api.Errno, n int) {
	t.Helper()
	got, gotErr, gotN := xmllex.Print(ts)
	if got != s || gotErr != err || gotN != n {
		t.Errorf("Print(%.200v) = %.80q, %d, %d; want %.80q, %d, %d", ts, got, gotErr, gotN, s, err, n)
	}
}

// P4.3: the chapter's pieces, and each kind by itself.
func TestPrint(t *testing.T) {
	holdPrint(t, []api.XTok{open("a", 7), attr("b", "<\"", -1), end(0), chars("&", 0), shut("a", 0)}, "<a b=\"&lt;&quot;\">&amp;</a>", api.OK, 0)
	holdPrint(t, nil, "", api.OK, 0)
	holdPrint(t, []api.XTok{}, "", api.OK, 0)
	holdPrint(t, []api.XTok{end(0)}, "", api.ErrXML, 0)
	holdPrint(t, []api.XTok{open("a", 0)}, "", api.ErrXMLEnd, 1)
	holdPrint(t, []api.XTok{chars("", 0)}, "", api.ErrXML, 0)
	holdPrint(t, []api.XTok{note("a--b", 0)}, "", api.ErrXMLComment, 0)
	holdPrint(t, []api.XTok{open("1", 0), end(0)}, "", api.ErrXMLName, 0)
	holdPrint(t, []api.XTok{open("a", 0), attr("b", "", 0), attr("b", "\t\n\r '>", 0), empty(0)}, "<a b=\"\" b=\"&#9;&#10;&#13; '&gt;\"/>", api.OK, 0)
	holdPrint(t, []api.XTok{chars("\t\n\r \"'>é", 0)}, "\t\n&#13; \"'&gt;é", api.OK, 0)
	holdPrint(t, []api.XTok{shut("x:y", 0), note("", 0), note("-", 0)}, "", api.ErrXMLComment, 2)
	holdPrint(t, []api.XTok{shut("x:y", 0), note("", 0), note("-&<>\" ", 0)}, "</x:y><!----><!---&<>\" -->", api.OK, 0)
	holdPrint(t, []api.XTok{decl(" version='1.0' "), chars("\n", 0), note("a", 0), chars("b", 0)}, "<?xml version='1.0' ?>\n<!--a-->b", api.OK, 0)
}

// P4.3: pieces where they can't stand, and the order of one piece's errors.
func TestPrintErrors(t *testing.T) {
	a := open("a", 0)
	version := decl(" version='1.0'")
	for _, c := range []struct {
		ts  []api.XTok
		err api.Errno
		n   int
	}{
		{[]api.XTok{{Kind: -1}}, api.ErrXML, 0},
		{[]api.XTok{{Kind: 8}}, api.ErrXML, 0},
		{[]api.XTok{{Kind: math.MinInt}}, api.ErrXML, 0},
		{[]api.XTok{{Kind: math.MaxInt, Name: "1", Value: "\x00"}}, api.ErrXML, 0},
		{[]api.XTok{{Kind: api.XOpen, Name: "a", Value: "x"}}, api.ErrXML, 0},
		{[]api.XTok{{Kind: api.XOpen, Name: "1", Value: "\x00"}}, api.ErrXML, 0},
		{[]api.XTok{{Kind: api.XClose, Name: "1", Value: "\x00"}}, api.ErrXML, 0},
		{[]api.XTok{a, {Kind: api.XEnd, Name: "a"}}, api.ErrXML, 1},
		{[]api.XTok{a, {Kind: api.XEnd, Value: "\x00"}}, api.ErrXML, 1},
		{[]api.XTok{a, {Kind: api.XEmpty, Name: "a"}}, api.ErrXML, 1},
		{[]api.XTok{a, {Kind: api.XEmpty, Value: "a"}}, api.ErrXML, 1},
		{[]api.XTok{{Kind: api.XText, Name: "a", Value: "\x00"}}, api.ErrXML, 0},
		{[]api.XTok{{Kind: api.XComment, Name: "a", Value: "--\x00"}}, api.ErrXML, 0},
		{[]api.XTok{{Kind: api.XDecl, Name: "a", Value: "\x00"}}, api.ErrXML, 0},
		{[]api.XTok{attr("a", "b", 0)}, api.ErrXML, 0},
		{[]api.XTok{attr("1", "\x00", 0)}, api.ErrXML, 0},
		{[]api.XTok{empty(0)}, api.ErrXML, 0},
		{[]api.XTok{a, end(0), end(0)}, api.ErrXML, 2},
		{[]api.XTok{a, end(0), attr("b", "", 0)}, api.ErrXML, 2},
		{[]api.XTok{a, empty(0), empty(0)}, api.ErrXML, 2},
		{[]api.XTok{a, empty(0), attr("b", "", 0)}, api.ErrXML, 2},
		{[]api.XTok{shut("a", 0), end(0)}, api.ErrXML, 1},
		{[]api.XTok{note("a", 0), empty(0)}, api.ErrXML, 1},
		{[]api.XTok{chars("a", 0), attr("b", "", 0)}, api.ErrXML, 1},
		{[]api.XTok{version, attr("b", "", 0)}, api.ErrXML, 1},
		{[]api.XTok{a, open("1", 0)}, api.ErrXML, 1},
		{[]api.XTok{a, shut("1", 0)}, api.ErrXML, 1},
		{[]api.XTok{a, chars("\x00", 0)}, api.ErrXML, 1},
		{[]api.XTok{a, note("--", 0)}, api.ErrXML, 1},
		{[]api.XTok{a, version}, api.ErrXML, 1},
		{[]api.XTok{a, attr("b", "", 0), a}, api.ErrXML, 2},
		{[]api.XTok{a, attr("b", "", 0), chars("x", 0)}, api.ErrXML, 2},
		{[]api.XTok{version, version}, api.ErrXML, 1},
		{[]api.XTok{chars("x", 0), decl("x")}, api.ErrXML, 1},
		{[]api.XTok{shut("a", 0), decl("\x00")}, api.ErrXML, 1},
		{[]api.XTok{chars("x", 0), chars("y", 0)}, api.ErrXML, 1},
		{[]api.XTok{chars("x", 0), chars("\x00", 0)}, api.ErrXML, 1},
		{[]api.XTok{chars("x", 0), note("y", 0), chars("", 0)}, api.ErrXML, 2},
		{[]api.XTok{open("", 0)}, api.ErrXMLName, 0},
		{[]api.XTok{shut("a b", 0)}, api.ErrXMLName, 0},
		{[]api.XTok{shut("", 0)}, api.ErrXMLName, 0},
		{[]api.XTok{open("é", 0)}, api.ErrXMLName, 0},
		{[]api.XTok{a, attr("-", "\x00", 0)}, api.ErrXMLName, 1},
		{[]api.XTok{a, attr("", "", 0)}, api.ErrXMLName, 1},
		{[]api.XTok{a, attr("b", "x\x00\xff", 0)}, api.ErrXMLChar, 1},
		{[]api.XTok{a, attr("b", "\xff\x00", 0)}, api.ErrUTF8, 1},
		{[]api.XTok{chars("\xef\xbf\xbf", 0)}, api.ErrXMLChar, 0},
		{[]api.XTok{chars("\xc3", 0)}, api.ErrUTF8, 0},
		{[]api.XTok{note("--\x0b", 0)}, api.ErrXMLChar, 0},
		{[]api.XTok{note("\xff-", 0)}, api.ErrUTF8, 0},
		{[]api.XTok{decl("\x00")}, api.ErrXMLChar, 0},
		{[]api.XTok{decl(" version='1.0'\xff")}, api.ErrUTF8, 0},
		{[]api.XTok{note("--", 0)}, api.ErrXMLComment, 0},
		{[]api.XTok{note("-", 0)}, api.ErrXMLComment, 0},
		{[]api.XTok{note("a-", 0)}, api.ErrXMLComment, 0},
		{[]api.XTok{note("--a", 0)}, api.ErrXMLComment, 0},
		{[]api.XTok{a, attr("b", "", 0)}, api.ErrXMLEnd, 2},
		{[]api.XTok{a, empty(0), a}, api.ErrXMLEnd, 3},
		{[]api.XTok{a, open("1", 0), {Kind: -1}}, api.ErrXML, 1},
	} {
		holdPrint(t, c.ts, "", c.err, c.n)
	}
}

// P4.3: the text's length is asked behind all pieces, and behind the end of the tag.
func TestPrintSize(t *testing.T) {
	most := strings.Repeat("x", api.MaxInput)
	half := most[:api.MaxInput/2]
	for _, c := range []struct {
		ts   []api.XTok
		size int
	}{
		{[]api.XTok{chars(most, 0)}, api.MaxInput},
		{[]api.XTok{chars(most[5:]+"&", 0)}, api.MaxInput},
		{[]api.XTok{chars(half[7:], 0), note(half, 0)}, api.MaxInput},
		{[]api.XTok{open("a", 0), attr("b", most[9:], 0), empty(0)}, api.MaxInput},
		{[]api.XTok{decl(" version='1.0'" + strings.Repeat("\n", api.MaxInput-21))}, api.MaxInput},
	} {
		s, err, n := xmllex.Print(c.ts)
		if err != api.OK || n != 0 || len(s) != c.size {
			t.Errorf("Print: %d bytes, %d, %d; want %d bytes", len(s), err, n, c.size)
		}
	}
	for _, ts := range [][]api.XTok{
		{chars(most+"x", 0)},
		{chars(most, 0), shut("a", 0)},
		{chars(most[4:]+"&", 0)},
		{chars(half[6:], 0), note(half, 0)},
		{open("a", 0), attr("b", most[8:], 0), empty(0)},
		{open(most, 0), end(0)},
		{note(most, 0), shut("a", 0), note(most, 0), chars(most, 0)},
		{decl(" version='1.0'" + strings.Repeat("\n", api.MaxInput-20))},
	} {
		holdPrint(t, ts, "", api.ErrXMLSize, len(ts))
	}
	holdPrint(t, []api.XTok{chars(most+"x", 0), open("a", 0)}, "", api.ErrXMLEnd, 2)
	holdPrint(t, []api.XTok{chars(most+"x", 0), open("1", 0)}, "", api.ErrXMLName, 1)
	holdPrint(t, []api.XTok{chars(most+"x", 0), chars("y", 0)}, "", api.ErrXML, 1)
	holdPrint(t, []api.XTok{chars(most+"\x00", 0)}, "", api.ErrXMLChar, 0)
	// Tokens takes a > as it stands, but Print writes four bytes for it.
	ts, err, _ := xmllex.Tokens(strings.Repeat(">", api.MaxInput))
	if err != api.OK {
		t.Errorf("Tokens: %d", err)
	}
	holdPrint(t, ts, "", api.ErrXMLSize, 1)
}

// write is what the chapter says of a piece's text, whether it can stand there or not; where says at which byte of it the piece's place is.
func write(p api.XTok) (s string, where int) {
	switch p.Kind {
	case api.XOpen:
		return "<" + p.Name, 0
	case api.XAttr:
		return " " + p.Name + `="` + text.Escape(p.Value, true) + `"`, 1
	case api.XEnd:
		return ">", 0
	case api.XEmpty:
		return "/>", 0
	case api.XClose:
		return "</" + p.Name + ">", 0
	case api.XText:
		return text.Escape(p.Value, false), 0
	case api.XComment:
		return "<!--" + p.Value + "-->", 0
	case api.XDecl:
		return "<?xml" + p.Value + "?>", 0
	}
	return "", 0
}

// comesBack tells whether Tokens gives pieces back from their text; a start tag that is open at the end is ended first.
func comesBack(ts []api.XTok) bool {
	ts = slices.Clone(ts)
	if n := len(ts); n > 0 && (ts[n-1].Kind == api.XOpen || ts[n-1].Kind == api.XAttr) {
		ts = append(ts, end(0))
	}
	s := ""
	for i := range ts {
		part, where := write(ts[i])
		ts[i].At = len(s) + where
		s += part
	}
	back, err, _ := xmllex.Tokens(s)
	return err == api.OK && slices.Equal(back, ts)
}

// P4.3, P4.4: Print takes just the pieces that come back from their text, each with its place, and tells the first that doesn't.
func TestPrintTakesWhatComesBack(t *testing.T) {
	r := rand.New(rand.NewSource(6))
	pool := []api.XTok{
		open("a", 0), open("b:c", 0), open("", 0), open("2", 0), {Kind: api.XOpen, Name: "a", Value: "v"},
		attr("a", "", 0), attr("b", "<&\">'\n", 0), attr("c", "\x01", 0), attr("", "x", 0),
		end(0), end(0), empty(0), empty(0), {Kind: api.XEnd, Value: ">"}, {Kind: api.XEmpty, Name: "a"},
		shut("a", 0), shut("a>", 0), chars("x", 0), chars("<!--\r", 0), chars("", 0), chars("\xfe", 0),
		note("", 0), note("-a", 0), note("a-", 0), note("-->", 0), {Kind: api.XComment, Name: "a"},
		decl(" version='1.0'"), decl(""), decl(" version='1.0'?><!---->"), {Kind: 8}, {Kind: -1},
	}
	taken := 0
	for range 60000 {
		ts := make([]api.XTok, r.Intn(6))
		for i := range ts {
			ts[i] = pool[r.Intn(len(pool))]
			ts[i].At = r.Intn(5) - 1
		}
		wantN := 0
		for wantN < len(ts) && comesBack(ts[:wantN+1]) {
			wantN++
		}
		s, err, n := xmllex.Print(ts)
		switch {
		case wantN < len(ts):
			if s != "" || err == api.OK || n != wantN {
				t.Errorf("Print(%v) = %q, %d, %d; want an error at %d", ts, s, err, n, wantN)
			}
		case len(ts) > 0 && (ts[len(ts)-1].Kind == api.XOpen || ts[len(ts)-1].Kind == api.XAttr):
			holdPrint(t, ts, "", api.ErrXMLEnd, len(ts))
		default:
			taken++
			want := ""
			for _, p := range ts {
				part, _ := write(p)
				want += part
			}
			holdPrint(t, ts, want, api.OK, 0)
		}
	}
	if taken < 1000 {
		t.Errorf("only %d lists were taken", taken)
	}
}

// P0.1: nothing that is handed in changes, spare room too, and nothing that is answered is shared.
func TestMemory(t *testing.T) {
	ts := append(make([]api.XTok, 0, 10), open("a", 5), attr("b", "<", 6), empty(7))
	room := ts[:cap(ts)]
	room[3] = note("kept", 8)
	before := slices.Clone(room)
	s, _, _ := xmllex.Print(ts)
	xmllex.Print(append(slices.Clone(ts), end(0)))
	if !slices.Equal(room, before) {
		t.Errorf("Print changed its argument: %v", room)
	}
	one, _, _ := xmllex.Tokens(s)
	other, _, _ := xmllex.Tokens(s)
	want := slices.Clone(other)
	one = one[:cap(one)]
	for i := range one {
		one[i] = chars("changed", 0)
	}
	if again, _, _ := xmllex.Tokens(s); !slices.Equal(other, want) || !slices.Equal(again, want) {
		t.Errorf("Tokens' answers share memory: %v, %v", other, again)
	}
}
