package value

import (
	"slices"

	"stencil/api"
	"stencil/prim"
)

// leaf is what is asked of an Encoding that takes bytes: a copy, as a part is.
type leaf struct {
	in       api.TokenOp // BeginEnum or BeginSet, if it stands right inside one
	prim     api.Prim
	length   int
	null     uint64 // what its elements are where nobody has set them
	min      uint64
	max      uint64
	optional bool
	choices  []uint64 // the Values of its enum or set, rising
}

// leavesOf are those of the field at a place.
func leavesOf(tokens []api.Token, place int) []leaf {
	if tokens[place].Presence == api.Constant {
		return nil
	}
	var leaves []leaf
	for i := place + 1; i < tokens[place].Pair; i++ {
		if tokens[i].Op == api.Encoding && tokens[i].Presence != api.Constant {
			leaves = append(leaves, leafAt(tokens, i))
		}
	}
	return leaves
}

func leafAt(tokens []api.Token, place int) leaf {
	t := tokens[place]
	l := leaf{prim: t.Prim, length: t.Length, null: t.Null, min: t.Min, max: t.Max, optional: t.Presence == api.Optional}
	switch in := tokens[place-1].Op; in {
	case api.BeginSet:
		l.null = 0
		fallthrough
	case api.BeginEnum:
		l.in, l.choices = in, choicesBehind(tokens, place)
	}
	return l
}

// choicesBehind are sorted, so that an enum of many is soon searched for each of many words.
func choicesBehind(tokens []api.Token, place int) []uint64 {
	var values []uint64
	for i := place + 1; tokens[i].Op == api.Choice; i++ {
		values = append(values, tokens[i].Value)
	}
	slices.Sort(values)
	return values
}

// isOdd tells whether a word isn't as the type wants it, in a field that may be null or not.
func (l *leaf) isOdd(w uint64, optional bool) bool {
	switch {
	case l.prim == api.Float || l.prim == api.Double:
		return false
	case l.in == api.BeginSet:
		return w&^l.bits() != 0
	case w == l.null:
		return l.prim != api.Char && !optional && !l.optional
	case l.in == api.BeginEnum:
		_, known := slices.BinarySearch(l.choices, w)
		return !known
	}
	return prim.Compare(l.prim, w, l.min) < 0 || prim.Compare(l.prim, w, l.max) > 0
}

// bits are those of a set that have a Choice.
func (l *leaf) bits() uint64 {
	var bits uint64
	for _, bit := range l.choices {
		bits |= 1 << bit
	}
	return bits
}
