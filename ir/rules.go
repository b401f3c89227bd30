package ir

import (
	"stencil/api"
	"stencil/prim"
)

// isNew keeps what was met, and tells whether it was for the first time.
func isNew[K comparable](met map[K]int, x K, place int) bool {
	_, again := met[x]
	met[x] = place
	return !again
}

func (c *checker) isMessage(t *api.Token) bool {
	return isBetween(t.ID, 0, api.MaxID) && isBetween(t.Since, 0, c.form.Version) &&
		isBlock(t) && canTell(c.form.Head.Block, t.Full) && canTell(c.form.Head.Template, t.ID)
}

func isBlock(t *api.Token) bool {
	return isBetween(t.Block, 0, t.Full) && t.Full <= api.MaxBlock
}

func (c *checker) isNewPart(t *api.Token) bool {
	return isBetween(t.ID, 0, api.MaxID) && isNew(c.ids, t.ID, c.place) && c.isNewName(t)
}

func (c *checker) isNewName(t *api.Token) bool {
	return isNew(c.names, named{in: c.top().place, name: t.Name}, c.place)
}

func (c *checker) isField(t *api.Token) bool {
	in := c.top()
	if !c.isNewPart(t) || !isBetween(t.Since, in.field, c.form.Version) {
		return false
	}
	in.field = t.Since
	switch t.Presence {
	case api.Required:
		return t.Since == in.Since && c.isInBlock(t)
	case api.Optional:
		return c.isInBlock(t)
	case api.Constant:
		return t.Offset == 0 && t.Size == 0 && len(t.Const) > 0
	}
	return false
}

// isInBlock is asked of fields that aren't constant. That a token stands behind is known by the field's pair.
func (c *checker) isInBlock(t *api.Token) bool {
	if len(t.Const) > 0 || t.Size != c.form.Tokens[c.place+1].Size {
		return false
	}
	if t.Size == 0 {
		return t.Offset == 0
	}
	in := c.top()
	if t.Size < 0 || !isBetween(t.Offset, in.end, in.Block-t.Size) {
		return false
	}
	in.end = t.Offset + t.Size
	return true
}

// isInRow is asked of the Since of groups and data.
func (c *checker) isInRow(t *api.Token) bool {
	in := c.top()
	if in.Op == api.BeginGroup {
		return t.Since == in.Since
	}
	ahead := in.row
	in.row = t.Since
	return isBetween(t.Since, ahead, c.form.Version)
}

func (c *checker) isGroup(t *api.Token) bool {
	return c.depths[t.Op] < api.MaxNest && c.isNewPart(t) && c.isInRow(t) && isBlock(t) &&
		isBetween(t.Size, 1, api.MaxBlock) && areSpots(t.Size, t.A, t.B) && canTell(t.A, t.Full)
}

func (c *checker) isData(t *api.Token) bool {
	return c.isNewPart(t) && c.isInRow(t) &&
		t.A.Offset == 0 && isNumber(t.A.Prim) && t.Size == prim.Size(t.A.Prim) && (t.Prim == api.Char || t.Prim == api.Uint8)
}

func (c *checker) isComposite(t *api.Token) bool {
	return c.depths[t.Op] < api.MaxDepth && c.isPlaced(t)
}

// isPlaced is asked of all that types have.
func (c *checker) isPlaced(t *api.Token) bool {
	if !isBetween(t.Size, 0, api.MaxBlock) || !isBetween(int(t.Presence), int(api.Required), int(api.Constant)) {
		return false
	}
	switch c.top().Op {
	case api.BeginField:
		return t.Offset == 0
	case api.BeginEnum:
		return c.isCoding(t) && t.Prim != api.Float && t.Prim != api.Double
	case api.BeginSet:
		return c.isCoding(t) && isBetween(int(t.Prim), int(api.Uint8), int(api.Uint64))
	}
	return c.isMember(t)
}

// isCoding is asked of the Encoding of an enum or set.
func (c *checker) isCoding(t *api.Token) bool {
	in := c.top()
	in.coding = t.Prim
	return t.Offset == in.Offset && t.Size == in.Size && t.Presence == in.Presence && t.Length == 1
}

// isMember is asked of what stands right inside a composite.
func (c *checker) isMember(t *api.Token) bool {
	in := c.top()
	if !isBetween(t.Offset, in.Offset, in.Offset+in.Size-t.Size) {
		return false
	}
	if t.Size == 0 {
		return true
	}
	ahead := in.end
	in.end = t.Offset + t.Size
	return t.Offset >= ahead
}

func (c *checker) isEncoding(t *api.Token) bool {
	if !c.isPlaced(t) || !isBetween(t.Length, 1, api.MaxLength) || !fit(t.Prim, t.Null, t.Min, t.Max) {
		return false
	}
	if t.Presence == api.Constant {
		return t.Size == 0 && len(t.Const) == t.Length && fit(t.Prim, t.Const...)
	}
	return t.Size == t.Length*prim.Size(t.Prim) && len(t.Const) == 0
}

// fit tells whether words are of a primitive type; none is of what is no such type.
func fit(p api.Prim, words ...uint64) bool {
	for _, word := range words {
		if !prim.Fits(p, word) {
			return false
		}
	}
	return true
}

func (c *checker) isChoice(t *api.Token) bool {
	in := c.top()
	if !isBetween(t.Since, 0, api.MaxVersion) || !c.isNewName(t) || !isNew(c.values, valued{in: in.place, value: t.Value}, c.place) {
		return false
	}
	if in.Op == api.BeginSet {
		return t.Value < uint64(8*prim.Size(in.coding))
	}
	return prim.Fits(in.coding, t.Value)
}
