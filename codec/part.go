package codec

import "stencil/api"

// part is a message, field, group, entry or data that stands in a reader's tree.
type part struct {
	kind  api.ValKind
	name  string
	depth int     // of its nodes
	parts []*part // of a message or entry those that it holds, of a group its entry
}

// messageOf is that of a form whose texts are nobody else's.
func messageOf(f api.Form) *part {
	p := blockAt(f.Tokens, 0, 1)
	p.kind, p.name = api.ValMessage, f.Tokens[0].Name
	return p
}

// blockAt is an entry of the group at a place; and a message, but for its kind and name. Fields without leaves are left out once for all, so that they are no work for each entry. It goes through the tokens by itself: ir's calls would look through the whole form for each part.
func blockAt(tokens []api.Token, place, depth int) *part {
	b := &part{kind: api.ValEntry, depth: depth}
	for i := place + 1; i < tokens[place].Pair; i = tokens[i].Pair + 1 {
		p := &part{name: tokens[i].Name, depth: depth + 1}
		switch tokens[i].Op {
		case api.BeginField:
			if !hasLeaf(tokens, i) {
				continue
			}
			p.kind = api.ValField
		case api.BeginGroup:
			p.kind, p.parts = api.ValGroup, []*part{blockAt(tokens, i, depth+2)}
		case api.BeginData:
			p.kind = api.ValData
		}
		b.parts = append(b.parts, p)
	}
	return b
}

// hasLeaf tells whether the field at a place is called. Its Size wouldn't tell: a composite may have bytes that no member takes.
func hasLeaf(tokens []api.Token, place int) bool {
	if tokens[place].Presence == api.Constant {
		return false
	}
	for _, t := range tokens[place:tokens[place].Pair] {
		if t.Op == api.Encoding && t.Presence != api.Constant {
			return true
		}
	}
	return false
}
