package evolve

import (
	"slices"

	"stencil/api"
)

// pair is a part as it was, and the one that has its path now, by their places.
type pair struct {
	*match
	before, after int
}

// comparison is a reason of a breach, and what tells it of two parts.
type comparison struct {
	reason  api.Errno
	differs func(p pair) bool
}

// comparisons stand in the order in which their reasons are told.
func comparisons() []comparison {
	return []comparison{
		{api.ErrRetyped, pair.isRetyped},
		{api.ErrMoved, pair.isMoved},
		{api.ErrShrunk, pair.isShrunk},
	}
}

func (p pair) parts() (api.Part, api.Part) { return p.was.Parts[p.before], p.now.Parts[p.after] }

// isRetyped makes no exception of messages: the Type of each is 0, so theirs are the same.
func (p pair) isRetyped() bool {
	a, b := p.parts()
	return a.Kind != b.Kind || a.ID != b.ID || a.Presence != b.Presence || !slices.Equal(a.Const, b.Const) || !p.isSameType(a.Type, b.Type)
}

func (p pair) isMoved() bool {
	a, b := p.parts()
	return a.Offset != b.Offset || a.Since != b.Since || isRowMember(a) && p.wasRanks[p.before] != p.nowRanks[p.after]
}

func (p pair) isShrunk() bool {
	a, b := p.parts()
	return a.Block != b.Block
}
