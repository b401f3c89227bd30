package script

import (
	"math"
	"strconv"

	"stencil/api"
	"stencil/number"
	"stencil/text"
)

// greatestCount is that of the widest type that a dimension's number may have.
const greatestCount = math.MaxUint32

// word is what a line begins with.
type word struct {
	text    string
	isNamed bool
	third   func(*reader) api.Fault // reads what may stand behind the word and the name
}

// words has that of each Kind of calls.
func words() [4]word {
	return [...]word{
		api.CallField: {"field", true, (*reader).words},
		api.CallGroup: {"group", true, (*reader).count},
		api.CallNext:  {"next", false, (*reader).nothing},
		api.CallData:  {"data", true, (*reader).quoted},
	}
}

// hasLine tells whether a line means the call: it must have nothing that its Kind doesn't have.
func hasLine(c api.Call) bool {
	all := words()
	if c.Kind < 0 || int(c.Kind) >= len(all) {
		return false
	}
	isName := c.Name == ""
	if all[c.Kind].isNamed {
		isName = text.Symbol(c.Name)
	}
	isCount := c.Count == 0
	if c.Kind == api.CallGroup {
		isCount = c.Count >= 0 && c.Count <= greatestCount
	}
	return isName && isCount &&
		(len(c.Words) == 0 || c.Kind == api.CallField) &&
		(c.Text == "" || c.Kind == api.CallData)
}

// said is what a Kind of calls brings, or is told, with a space ahead; "", where that is nothing.
func said(k api.CallKind, t api.Told) string {
	switch k {
	case api.CallField:
		if len(t.Words) > 0 {
			list, _ := number.Join(api.Uint64, t.Words)
			return " " + list
		}
	case api.CallGroup:
		return " " + strconv.Itoa(t.Count)
	case api.CallData:
		return " " + text.Quote(t.Text)
	}
	return ""
}

func refused(err api.Errno) string { return "! " + err.Error() }
