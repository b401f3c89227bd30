package order

import (
	"strings"

	"stencil/api"
)

// part is what a machine asks of a message, group or data of the form: a copy, which nothing changes once it is made, so that machines may share it.
type part struct {
	kind   api.CallKind // of the call that it wants, if it is no message
	name   string
	place  int                 // of its token
	most   uint64              // entries that the group's dimension may tell
	fields map[string]struct{} // the names of those that are called
	row    []*part
}

// partAt goes through the tokens by itself: ir's calls would look through the whole form for each part.
func partAt(tokens []api.Token, place int) *part {
	t := tokens[place]
	p := &part{kind: kindOf(t.Op), name: strings.Clone(t.Name), place: place, most: greatest(t.B.Prim), fields: map[string]struct{}{}}
	for i := place + 1; i < t.Pair; i = tokens[i].Pair + 1 {
		if tokens[i].Op != api.BeginField {
			p.row = append(p.row, partAt(tokens, i))
		} else if isCalled(tokens, i) {
			p.fields[strings.Clone(tokens[i].Name)] = struct{}{}
		}
	}
	return p
}

func kindOf(op api.TokenOp) api.CallKind {
	if op == api.BeginData {
		return api.CallData
	}
	return api.CallGroup
}

// isCalled tells whether the field at a place has a leaf. Its Size wouldn't tell: a composite may have bytes that no member takes.
func isCalled(tokens []api.Token, place int) bool {
	if tokens[place].Presence == api.Constant {
		return false
	}
	for i := place + 1; i < tokens[place].Pair; i++ {
		if tokens[i].Op == api.Encoding && tokens[i].Presence != api.Constant {
			return true
		}
	}
	return false
}

// greatest is the Max of a type that may stand in a dimension: the number above it is the type's null.
func greatest(p api.Prim) uint64 {
	switch p {
	case api.Uint8:
		return 1<<8 - 2
	case api.Uint16:
		return 1<<16 - 2
	}
	return 1<<32 - 2
}
