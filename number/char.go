package number

import (
	"strconv"
	"strings"

	"stencil/api"
)

const greatestChar = 255

func readChar(s string) (uint64, api.Errno, int) {
	if len(s) == 1 && s[0] >= ' ' && s[0] <= '~' {
		return uint64(s[0]), api.OK, 0
	}
	digits, marked := strings.CutPrefix(s, "#")
	if !marked {
		return 0, api.ErrOneChar, 0
	}
	n, err, _ := Int(digits, greatestChar)
	if err == api.ErrNumber {
		return 0, api.ErrOneChar, 0
	}
	return uint64(n), err, 0
}

// writeChar tells by its number what a list would be cut at, what marks a number, and what isn't seen.
func writeChar(w uint64) string {
	if w > ' ' && w <= '~' && w != '#' && w != ',' {
		return string(rune(w))
	}
	return "#" + strconv.FormatUint(w, 10)
}
