package text

import "stencil/api"

// row is a row of the table of sequences: how many bytes one takes (none: 0), and the ends between which the second lies.
type row struct {
	size      int
	low, high byte
}

func rowOf(first byte) row {
	switch {
	case first <= 0x7F:
		return row{size: 1}
	case first < 0xC2:
		return row{}
	case first <= 0xDF:
		return row{size: 2, low: 0x80, high: 0xBF}
	case first == 0xE0:
		return row{size: 3, low: 0xA0, high: 0xBF}
	case first == 0xED:
		return row{size: 3, low: 0x80, high: 0x9F}
	case first <= 0xEF:
		return row{size: 3, low: 0x80, high: 0xBF}
	case first == 0xF0:
		return row{size: 4, low: 0x90, high: 0xBF}
	case first <= 0xF3:
		return row{size: 4, low: 0x80, high: 0xBF}
	case first == 0xF4:
		return row{size: 4, low: 0x80, high: 0x8F}
	}
	return row{}
}

// begins tells whether s, of which the first byte is the row's, begins with a sequence of it.
func (r row) begins(s string) bool {
	if len(s) < r.size {
		return false
	}
	switch r.size {
	case 4:
		if !isTail(s[3]) {
			return false
		}
		fallthrough
	case 3:
		if !isTail(s[2]) {
			return false
		}
		fallthrough
	case 2:
		if s[1] < r.low || s[1] > r.high {
			return false
		}
		fallthrough
	case 1:
		return true
	}
	return false
}

func isTail(c byte) bool { return c >= 0x80 && c <= 0xBF }

// sequence is the number of the character with which a text that isn't empty begins, and how many bytes it takes: 0 where no sequence begins.
func sequence(s string) (number, size int) {
	r := rowOf(s[0])
	if !r.begins(s) {
		return 0, 0
	}
	if r.size == 1 {
		return int(s[0]), 1
	}
	number = int(s[0]) & (1<<(7-r.size) - 1)
	for _, c := range []byte(s[1:r.size]) {
		number = number<<6 | int(c&0x3F)
	}
	return number, r.size
}

// greatestChar is the greatest number that a character has.
const greatestChar = 1114111

func isXMLChar(number int) bool {
	switch {
	case number < 32:
		return number == 9 || number == 10 || number == 13
	case number <= 55295:
		return true
	case number <= 65533:
		return number >= 57344
	}
	return number >= 65536 && number <= greatestChar
}

func isAnyChar(int) bool { return true }

// Check tells whether a text is UTF-8; with an error the place.
func Check(s string) (api.Errno, int) { return firstFault(s, isAnyChar) }

// Chars tells whether a text is UTF-8 and has characters of XML alone; with an error the place.
func Chars(s string) (api.Errno, int) { return firstFault(s, isXMLChar) }

func firstFault(s string, allowed func(number int) bool) (api.Errno, int) {
	for at := 0; at < len(s); {
		number, size := sequence(s[at:])
		if size == 0 {
			return api.ErrUTF8, at
		}
		if !allowed(number) {
			return api.ErrXMLChar, at
		}
		at += size
	}
	return api.OK, 0
}
