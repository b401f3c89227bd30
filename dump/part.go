package dump

import "stencil/api"

// part is a message, a group or data.
type part struct {
	name    string
	isGroup bool    // or a message
	size    int     // of data: its length's
	fields  []field // of its block
	row     []*part
}

// field is one that takes bytes, and where in its block.
type field struct {
	name     string
	from, to int
}

// partAt goes through the tokens by itself: ir's calls would look through the whole form for each part. Fields without bytes are left out once for all, so that they are no work for each entry.
func partAt(tokens []api.Token, place int) *part {
	t := tokens[place]
	p := &part{name: t.Name, isGroup: t.Op != api.BeginData, size: t.Size}
	for i := place + 1; i < t.Pair; i = tokens[i].Pair + 1 {
		inside := tokens[i]
		switch {
		case inside.Op != api.BeginField:
			p.row = append(p.row, partAt(tokens, i))
		case inside.Size > 0:
			p.fields = append(p.fields, field{name: inside.Name, from: inside.Offset, to: inside.Offset + inside.Size})
		}
	}
	return p
}
