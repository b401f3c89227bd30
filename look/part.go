package look

import "stencil/api"

// part is what a path may name: a field that is called, a group, data; or the message.
type part struct {
	kind  api.CallKind // of the call that names it, if it is no message
	name  string
	place int     // of its token
	parts []*part // right inside it, all that a path may name
	row   []*part // those of them that are groups and data
}

// partAt goes through the tokens by itself: ir's calls would look through the whole form for each part. Rows are gathered once for all, so that the fields of a group are no work for each entry.
func partAt(tokens []api.Token, place int) *part {
	t := tokens[place]
	p := &part{kind: kindOf(t.Op), name: t.Name, place: place}
	if p.kind != api.CallGroup {
		return p
	}
	for i := place + 1; i < t.Pair; i = tokens[i].Pair + 1 {
		isField := tokens[i].Op == api.BeginField
		if isField && !isCalled(tokens, i) {
			continue
		}
		held := partAt(tokens, i)
		p.parts = append(p.parts, held)
		if !isField {
			p.row = append(p.row, held)
		}
	}
	return p
}

// kindOf takes a message for a group: it holds parts as one does.
func kindOf(op api.TokenOp) api.CallKind {
	switch op {
	case api.BeginField:
		return api.CallField
	case api.BeginData:
		return api.CallData
	}
	return api.CallGroup
}

// isCalled tells whether the field at a place has a leaf. Its Size wouldn't tell: a composite may have bytes that no member takes.
func isCalled(tokens []api.Token, place int) bool {
	if tokens[place].Presence == api.Constant {
		return false
	}
	for _, t := range tokens[place:tokens[place].Pair] {
		if t.Op == api.Encoding && t.Presence != api.Constant {
			return true
		}
	}
	return false
}

// find is the part of a name right inside this one; nil, if there is none.
func (p *part) find(name string) *part {
	for _, held := range p.parts {
		if held.name == name {
			return held
		}
	}
	return nil
}
