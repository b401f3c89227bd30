package text

import "stencil/api"

const smallDigits = "0123456789abcdef"

// Hex writes bytes as hex digits.
func Hex(s string) string {
	out := make([]byte, 0, 2*len(s))
	for i := range len(s) {
		out = appendHex(out, s[i])
	}
	return string(out)
}

func appendHex(out []byte, c byte) []byte {
	return append(out, smallDigits[c>>4], smallDigits[c&15])
}

// Unhex reads what Hex writes, in either case of letters; with an error the place.
func Unhex(s string) (string, api.Errno, int) {
	out := make([]byte, 0, len(s)/2)
	for at := 0; at < len(s); at += 2 {
		c, end := hexPair(s, at)
		if end < at+2 {
			return "", api.ErrArg, end
		}
		out = append(out, c)
	}
	return string(out), api.OK, 0
}

// hexPair is the byte that two digits at a place say, and the place behind them, or that of the first byte that is no digit (the text's length, where it ends too early).
func hexPair(s string, at int) (byte, int) {
	c, end := 0, at
	for end < len(s) && end < at+2 {
		d, ok := hexDigit(s[end])
		if !ok {
			break
		}
		c = c<<4 | d
		end++
	}
	return byte(c), end
}

func hexDigit(c byte) (int, bool) {
	switch {
	case isDigit(c):
		return int(c - '0'), true
	case c >= 'a' && c <= 'f':
		return int(c-'a') + 10, true
	case c >= 'A' && c <= 'F':
		return int(c-'A') + 10, true
	}
	return 0, false
}
