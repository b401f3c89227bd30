package text

import (
	"strings"
	"unicode/utf8"

	"stencil/api"
)

// Escape writes a text as XML's characters, between tags, or as an attribute's value.
func Escape(s string, attr bool) string {
	out := make([]byte, 0, len(s))
	for i := range len(s) {
		entity := entityOf(s[i])
		if entity == "" && attr {
			entity = attrEntityOf(s[i])
		}
		if entity == "" {
			out = append(out, s[i])
		} else {
			out = append(out, entity...)
		}
	}
	return string(out)
}

// entityOf is "" of a byte that may stand as it is, everywhere.
func entityOf(c byte) string {
	switch c {
	case '&':
		return "&amp;"
	case '<':
		return "&lt;"
	case '>':
		return "&gt;"
	case '\r':
		return "&#13;"
	}
	return ""
}

// attrEntityOf tells of the bytes that can't stand in an attribute's value alone.
func attrEntityOf(c byte) string {
	switch c {
	case '"':
		return "&quot;"
	case '\t':
		return "&#9;"
	case '\n':
		return "&#10;"
	}
	return ""
}

// Unescape puts entities in; with an error the place.
func Unescape(s string) (string, api.Errno, int) {
	r := newEntityReader(s)
	for r.at < len(r.s) {
		read := r.item()
		if !read() {
			return "", api.ErrEntity, r.at
		}
	}
	return string(r.out), api.OK, 0
}

// entityReader reads a text with entities. A fault is told at the entity's &, so none of its functions moves ahead of having read the whole.
type entityReader struct {
	reader
	names map[string]byte
}

func newEntityReader(s string) *entityReader {
	return &entityReader{
		reader: reader{s: s},
		names:  map[string]byte{"amp": '&', "lt": '<', "gt": '>', "quot": '"', "apos": '\''},
	}
}

// item picks the function that reads what stands next.
func (r *entityReader) item() func() bool {
	rest := r.s[r.at:]
	switch {
	case rest[0] != '&':
		return r.plain
	case strings.HasPrefix(rest, "&#x"):
		return r.hexadecimal
	case strings.HasPrefix(rest, "&#"):
		return r.decimal
	}
	return r.named
}

// plain takes all bytes up to the next entity.
func (r *entityReader) plain() bool {
	run, _, _ := strings.Cut(r.s[r.at:], "&")
	return r.take(len(run), []byte(run)...)
}

func (r *entityReader) named() bool {
	name, ended := r.body("&")
	c, known := r.names[name]
	if !ended || !known {
		return false
	}
	return r.take(len("&")+len(name)+len(";"), c)
}

func (r *entityReader) decimal() bool { return r.numeric("&#", 10) }

func (r *entityReader) hexadecimal() bool { return r.numeric("&#x", 16) }

func (r *entityReader) numeric(mark string, base int) bool {
	digits, ended := r.body(mark)
	number, said := numberOf(digits, base)
	if !ended || !said || !isXMLChar(number) {
		return false
	}
	return r.take(len(mark)+len(digits)+len(";"), utf8.AppendRune(nil, rune(number))...)
}

// body is what stands between the mark with which an entity begins and the first ; and whether there is one.
func (r *entityReader) body(mark string) (string, bool) {
	body, _, ended := strings.Cut(r.s[r.at+len(mark):], ";")
	return body, ended
}

// numberOf is the number that one digit or more say. Numbers that no character has are all told as one, so that no count of digits can wrap it.
func numberOf(digits string, base int) (int, bool) {
	number := 0
	for i := range len(digits) {
		d, ok := hexDigit(digits[i])
		if !ok || d >= base {
			return 0, false
		}
		number = min(number*base+d, greatestChar+1)
	}
	return number, digits != ""
}
