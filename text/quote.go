package text

import (
	"strings"

	"stencil/api"
)

// Quote writes a text in quotes.
func Quote(s string) string {
	out := append(make([]byte, 0, len(s)+2), '"')
	for i := range len(s) {
		out = appendItem(out, s[i])
	}
	return string(append(out, '"'))
}

func appendItem(out []byte, c byte) []byte {
	switch c {
	case '\\', '"':
		return append(out, '\\', c)
	case '\n':
		return append(out, '\\', 'n')
	case '\r':
		return append(out, '\\', 'r')
	case '\t':
		return append(out, '\\', 't')
	}
	if c >= 32 && c <= 126 {
		return append(out, c)
	}
	return appendHex(append(out, '\\', 'x'), c)
}

// Unquote reads a text in quotes with which s begins, and tells how many bytes it takes; with an error the place.
func Unquote(s string) (string, int, api.Errno) {
	if s == "" || s[0] != '"' {
		return "", 0, api.ErrQuote
	}
	r := &quoteReader{reader{s: s, at: 1}}
	for !strings.HasPrefix(r.s[r.at:], `"`) {
		read := r.item()
		if !read() {
			return "", r.at, api.ErrQuote
		}
	}
	return string(r.out), r.at + 1, api.OK
}

// quoteReader reads the items between two quotation marks. A fault is told at the byte that can't stand there, so its functions move byte by byte.
type quoteReader struct{ reader }

// item picks the function that reads what stands next.
func (r *quoteReader) item() func() bool {
	rest := r.s[r.at:]
	switch {
	case strings.HasPrefix(rest, `\x`):
		return r.hex
	case strings.HasPrefix(rest, `\`):
		return r.marked
	}
	return r.plain
}

// plain takes all bytes that stand for themselves, and is at fault where there is none.
func (r *quoteReader) plain() bool {
	end := r.at
	for end < len(r.s) && isPlain(r.s[end]) {
		end++
	}
	if end == r.at {
		return false
	}
	run := r.s[r.at:end]
	return r.take(len(run), []byte(run)...)
}

func isPlain(c byte) bool { return c >= 32 && c != '"' && c != '\\' }

func (r *quoteReader) marked() bool {
	r.at++
	if r.at == len(r.s) {
		return false
	}
	switch c := r.s[r.at]; c {
	case '\\', '"':
		return r.take(1, c)
	case 'n':
		return r.take(1, '\n')
	case 'r':
		return r.take(1, '\r')
	case 't':
		return r.take(1, '\t')
	}
	return false
}

func (r *quoteReader) hex() bool {
	r.at += len(`\x`)
	c, end := hexPair(r.s, r.at)
	if end < r.at+2 {
		r.at = end
		return false
	}
	return r.take(2, c)
}
