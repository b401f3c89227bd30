package schema

import "stencil/api"

// review goes through the parts of a schema, in order, and keeps what was met. The schema's types and header have been asked ahead of it.
type review struct {
	api.Schema
	head    api.Head
	uses    map[int]use              // by place in Types
	open    [api.MaxNest + 2]*layout // by Depth: what holds the parts one deeper; 0: the schema, which holds the messages
	layouts []*layout                // of the messages and groups, in order
}

func newReview(s api.Schema, head api.Head) review {
	r := review{Schema: s, head: head, uses: map[int]use{}}
	r.open[0] = newLayout(-1)
	return r
}

// check is one thing that may be wrong with a part; those ahead of it in its table have said nothing.
type check struct {
	err    api.Errno
	broken func(i int) bool
}

// firstBroken is the error of the first check that refuses the part at a place.
func firstBroken(checks []check, i int) api.Errno {
	for _, c := range checks {
		if c.broken(i) {
			return c.err
		}
	}
	return api.OK
}

// pass goes on behind a part that isn't refused; offset is what is said of where a field lies.
func (r *review) pass(i, offset int) {
	p := r.Parts[i]
	r.idsBeside(p)[p.ID] = i
	holder := r.holder(p)
	holder.names[p.Name] = i
	holder.ahead = p
	if p.Size > 0 {
		holder.add(i, api.Room{Size: p.Size, Offset: offset})
	}
	if holdsParts(p) {
		l := newLayout(i)
		r.open[p.Depth] = l
		r.layouts = append(r.layouts, l)
	}
}

func holdsParts(p api.Part) bool {
	return p.Kind == api.PartMessage || p.Kind == api.PartGroup
}

// holder is what a part stands right inside.
func (r *review) holder(p api.Part) *layout { return r.open[p.Depth-1] }

// idsBeside is the ids from which a part's must differ: the messages' own, or those of all parts of one message.
func (r *review) idsBeside(p api.Part) map[int]int {
	if p.Kind == api.PartMessage {
		return r.open[0].ids
	}
	return r.open[1].ids
}

func (r *review) useAt(place int) use {
	if r.Types[place].Kind != api.TypeComposite {
		return use{}
	}
	u, known := r.uses[place]
	if !known {
		u = useOf(whole(r.Types, place))
		r.uses[place] = u
	}
	return u
}

// canTell tells whether a number that isn't below 0 may stand at a spot of a header or dimension. (Types begins with the primitive types.)
func (r *review) canTell(spot api.Spot, n int) bool {
	return uint64(n) <= r.Types[spot.Prim].Max
}

// hasBadHeader tells of the schema that its header can't tell its numbers.
func (r *review) hasBadHeader() bool {
	return !r.canTell(r.head.Schema, r.ID) || !r.canTell(r.head.Version, r.Version)
}

func (r *review) hasIDTwice(i int) bool {
	p := r.Parts[i]
	_, twice := r.idsBeside(p)[p.ID]
	return twice
}

func (r *review) hasNameTwice(i int) bool {
	p := r.Parts[i]
	_, twice := r.holder(p).names[p.Name]
	return twice
}

// isMisplaced tells of a part that it stands behind one of a later Kind: fields, groups, data is the order of the Kinds' numbers.
func (r *review) isMisplaced(i int) bool {
	p := r.Parts[i]
	return p.Kind < r.holder(p).ahead.Kind
}

// isNested tells of a group that it stands too deep: the outermost has the Depth 2.
func (r *review) isNested(i int) bool {
	p := r.Parts[i]
	return p.Kind == api.PartGroup && p.Depth-1 > api.MaxNest
}

func (r *review) isFieldThatVaries(i int) bool {
	p := r.Parts[i]
	return p.Kind == api.PartField && r.useAt(p.Type).varies
}

func (r *review) isGroupOfNoDim(i int) bool {
	p := r.Parts[i]
	return p.Kind == api.PartGroup && !r.useAt(p.Type).isDim
}

func (r *review) isDataOfNoLength(i int) bool {
	p := r.Parts[i]
	return p.Kind == api.PartData && !r.useAt(p.Type).isData
}

func (r *review) hasBadSince(i int) bool {
	p := r.Parts[i]
	if p.Since > r.Version {
		return true
	}
	if p.Kind == api.PartMessage {
		return false
	}
	l := r.holder(p)
	holder := r.Parts[l.place]
	switch {
	case p.Since < holder.Since:
		return true
	case p.Kind == api.PartField:
		return p.Since < l.ahead.Since
	case holder.Kind == api.PartGroup:
		return p.Since != holder.Since
	}
	return l.ahead.Kind != api.PartField && p.Since < l.ahead.Since
}

// isLateAndRequired tells of a field that those who don't know it couldn't leave it out.
func (r *review) isLateAndRequired(i int) bool {
	p := r.Parts[i]
	return p.Kind == api.PartField && p.Presence == api.Required && p.Since > r.Parts[r.holder(p).place].Since
}

// isBeyondHeader tells of a message that the header can't tell its numbers.
func (r *review) isBeyondHeader(i int) bool {
	p := r.Parts[i]
	return p.Kind == api.PartMessage && !(r.canTell(r.head.Block, p.Block) && r.canTell(r.head.Template, p.ID))
}

// isBeyondDim tells of a group that its dimension can't tell its block's length.
func (r *review) isBeyondDim(i int) bool {
	p := r.Parts[i]
	return p.Kind == api.PartGroup && !r.canTell(r.useAt(p.Type).block, p.Block)
}
