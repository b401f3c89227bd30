package paths

import (
	"strings"

	"stencil/api"
)

// part is what is asked of a message, group or data of the form: a copy, which nothing changes once it is made, so that machines may share it.
type part struct {
	call   api.Call   // that it wants, if it is no message; of a group with the Count 0
	place  int        // of its token
	holder *part      // nil: of the message
	number int        // in the holder's row
	fields []api.Call // those that may be called, in the form's order
	row    []*part
}

// gather makes the part at a place and those inside it, by their places. It goes through the tokens by itself: ir's calls would look through the whole form for each part.
func gather(parts map[int]*part, tokens []api.Token, place int) *part {
	t := tokens[place]
	p := &part{call: callOf(t), place: place}
	for i := place + 1; i < t.Pair; i = tokens[i].Pair + 1 {
		if tokens[i].Op != api.BeginField {
			held := gather(parts, tokens, i)
			held.holder, held.number = p, len(p.row)
			p.row = append(p.row, held)
		} else if isCalled(tokens, i) {
			p.fields = append(p.fields, callOf(tokens[i]))
		}
	}
	parts[place] = p
	return p
}

// callOf is the call that names what a token begins.
func callOf(t api.Token) api.Call {
	c := api.Call{Kind: api.CallGroup, Name: strings.Clone(t.Name)}
	switch t.Op {
	case api.BeginField:
		c.Kind = api.CallField
	case api.BeginData:
		c.Kind = api.CallData
	}
	return c
}

// isCalled tells whether the field at a place has a leaf. Its Size wouldn't tell: a composite may have bytes that no member takes.
func isCalled(tokens []api.Token, place int) bool {
	if tokens[place].Presence == api.Constant {
		return false
	}
	for i := place + 1; i < tokens[place].Pair; i++ {
		if tokens[i].Op == api.Encoding && tokens[i].Presence != api.Constant {
			return true
		}
	}
	return false
}
