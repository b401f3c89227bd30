package dump

import (
	"strconv"
	"strings"

	"stencil/api"
	"stencil/look"
	"stencil/text"
)

// names are what the kinds of spans are called in lines.
var names = [...]string{
	api.SpanHead:   "head",
	api.SpanField:  "field",
	api.SpanPad:    "pad",
	api.SpanDim:    "dim",
	api.SpanLength: "length",
	api.SpanData:   "data",
}

// noStep stands in a line for the empty path.
const noStep = "-"

// lineOf tells a span and its bytes.
func lineOf(s api.Span, b []byte) string {
	path, _ := look.Text(s.Path)
	if path == "" {
		path = noStep
	}
	pieces := []string{strconv.Itoa(s.From), strconv.Itoa(s.To), names[s.Kind], path, text.Hex(string(b))}
	return strings.Join(pieces, " ")
}

// bytesOf are those of a line, if it is one that may stand at a place. The bytes say where it ends, so its numbers aren't read: they are held against the texts that they must have.
func bytesOf(line string, from int) (string, bool) {
	pieces := strings.SplitN(line, " ", 6)
	if len(pieces) != 5 {
		return "", false
	}
	s, err, _ := text.Unhex(pieces[4])
	isLine := err == api.OK && s != "" && text.Hex(s) == pieces[4] &&
		pieces[0] == strconv.Itoa(from) && pieces[1] == strconv.Itoa(from+len(s)) &&
		isName(pieces[2]) && isPath(pieces[3])
	return s, isLine
}

func isName(s string) bool {
	for _, name := range names {
		if s == name {
			return true
		}
	}
	return false
}

func isPath(s string) bool {
	if s == noStep {
		return true
	}
	path, err, _ := look.Path(s)
	written, _ := look.Text(path)
	return err == api.OK && s != "" && s == written
}
