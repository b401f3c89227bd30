package text

import (
	"strings"

	"stencil/api"
)

func isLetter(c byte) bool { return c >= 'A' && c <= 'Z' || c >= 'a' && c <= 'z' }

func isDigit(c byte) bool { return c >= '0' && c <= '9' }

// XMLName tells whether a text is an element's or attribute's name.
func XMLName(s string) bool {
	for i := range len(s) {
		if !inXMLName(s[i], i == 0) {
			return false
		}
	}
	return s != ""
}

func inXMLName(c byte, first bool) bool {
	switch c {
	case '_', ':':
		return true
	case '-', '.':
		return !first
	}
	return isLetter(c) || isDigit(c) && !first
}

// Symbol tells whether a text is a symbolic name.
func Symbol(s string) bool {
	if s == "" || len(s) > api.MaxSymbol || isDigit(s[0]) {
		return false
	}
	for i := range len(s) {
		if c := s[i]; !isLetter(c) && !isDigit(c) && c != '_' {
			return false
		}
	}
	return true
}

// blanks are the bytes that XML has as white space: fewer than those of the library's TrimSpace.
const blanks = "\t\n\r "

// Blank tells whether a text has blanks of XML alone (or nothing).
func Blank(s string) bool { return strings.Trim(s, blanks) == "" }

// Trim takes blanks of XML off both ends.
func Trim(s string) string {
	// A copy, so that what is answered doesn't keep the longer text in memory.
	return strings.Clone(strings.Trim(s, blanks))
}
