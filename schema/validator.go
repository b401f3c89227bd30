package schema

import (
	"slices"
	"strings"

	"stencil/api"
	"stencil/text"
	"stencil/types"
)

// maxDotted is how many bytes a dotted name has at most.
const maxDotted = 255

// elsewhere is the number that is told of a fault that is no part's.
const elsewhere = -1

// validator asks a value that may be a schema.
type validator struct {
	review
	values map[int]map[uint64]api.Named // of the enums that were asked, by place
}

// validate is the first fault of a value that may be a schema; none has the error OK.
func validate(s api.Schema) api.Fault {
	head, err := headOf(s)
	if err != api.OK {
		return api.Fault{Err: err, At: elsewhere}
	}
	v := &validator{review: newReview(s, head), values: map[int]map[uint64]api.Named{}}
	if v.hasBadHeader() {
		return api.Fault{Err: api.ErrHeader, At: elsewhere}
	}
	if v.hasLateValue() {
		return api.Fault{Err: api.ErrSince, At: elsewhere}
	}
	if fault := v.askParts(); fault.Err != api.OK {
		return fault
	}
	return v.askBlocks()
}

// headOf asks what has to hold ahead of all else, and tells the header.
func headOf(s api.Schema) (api.Head, api.Errno) {
	if !isDotted(s.Package) || !isUpTo(s.ID, api.MaxID) || !isUpTo(s.Version, api.MaxVersion) || s.Order != api.Little && s.Order != api.Big {
		return api.Head{}, api.ErrSchemaMade
	}
	if err, _ := types.Check(s.Types); err != api.OK {
		return api.Head{}, err
	}
	head, ok := types.HeadOf(s.Types, s.Header)
	if !ok || s.Types[s.Header].Depth != 1 {
		return api.Head{}, api.ErrHeader
	}
	return head, api.OK
}

func isDotted(s string) bool {
	if len(s) > maxDotted {
		return false
	}
	for part := range strings.SplitSeq(s, ".") {
		if !text.Symbol(part) {
			return false
		}
	}
	return true
}

func isUpTo(n, most int) bool { return n >= 0 && n <= most }

func (v *validator) hasLateValue() bool {
	return slices.ContainsFunc(v.Types, func(n api.TypeNode) bool {
		return slices.ContainsFunc(n.Values, func(value api.Named) bool { return value.Since > v.Version })
	})
}

func (v *validator) askParts() api.Fault {
	checks := v.checks()
	for i, p := range v.Parts {
		if err := firstBroken(checks, i); err != api.OK {
			return api.Fault{Err: err, At: i}
		}
		v.pass(i, p.Offset)
	}
	return api.Fault{}
}

func (v *validator) askBlocks() api.Fault {
	checks := []check{{api.ErrHeader, v.isBeyondHeader}, {api.ErrDimension, v.isBeyondDim}}
	for _, l := range v.layouts {
		if block := v.Parts[l.place].Block; block < l.end() || block > api.MaxBlock {
			return api.Fault{Err: api.ErrLayBlock, At: l.place}
		}
		if err := firstBroken(checks, l.place); err != api.OK {
			return api.Fault{Err: err, At: l.place}
		}
	}
	return api.Fault{}
}

func (v *validator) checks() []check {
	return []check{
		{api.ErrSchemaMade, v.isNoPart},
		{api.ErrIDTwice, v.hasIDTwice},
		{api.ErrNameTwice, v.hasNameTwice},
		{api.ErrPartOrder, v.isMisplaced},
		{api.ErrNest, v.isNested},
		{api.ErrTypeKind, v.isFieldThatVaries},
		{api.ErrTypeValue, v.isFieldOfBadValue},
		{api.ErrDimension, v.isGroupOfNoDim},
		{api.ErrLengthType, v.isDataOfNoLength},
		{api.ErrSince, v.hasBadSince},
		{api.ErrNotOptional, v.isLateAndRequired},
		{api.ErrLayOver, v.isFieldLaidBadly},
		{api.ErrLayBig, v.isFieldBeyond},
	}
}

func (v *validator) isNoPart(i int) bool {
	p := v.Parts[i]
	return !v.canStand(i) || hasStrangeFields(p) || !text.Symbol(p.Name) || !isUpTo(p.ID, api.MaxID) ||
		p.Deprecated < -1 || p.Deprecated > api.MaxVersion || p.Since < 0 || !v.isType(p.Type)
}

// canStand tells whether a part's Depth fits what stands ahead of it.
func (v *validator) canStand(i int) bool {
	p := v.Parts[i]
	if p.Kind == api.PartMessage {
		return p.Depth == 1
	}
	deepest := 0
	if i > 0 {
		ahead := v.Parts[i-1]
		deepest = ahead.Depth
		if holdsParts(ahead) {
			deepest++
		}
	}
	return p.Depth >= 2 && p.Depth <= deepest
}

// hasStrangeFields tells whether a part has what its Kind doesn't have, or a Kind that is none.
func hasStrangeFields(p api.Part) bool {
	likeField := p.Presence != 0 || p.Offset != 0 || p.Size != 0 || len(p.Const) != 0
	switch p.Kind {
	case api.PartMessage:
		return likeField || p.Type != 0
	case api.PartField:
		return p.Block != 0
	case api.PartGroup:
		return likeField
	case api.PartData:
		return likeField || p.Block != 0
	}
	return true
}

func (v *validator) isType(place int) bool {
	return place >= 0 && place < len(v.Types) && v.Types[place].Depth == 1
}

func (v *validator) isFieldOfBadValue(i int) bool {
	p := v.Parts[i]
	if p.Kind != api.PartField {
		return false
	}
	t := v.Types[p.Type]
	switch p.Presence {
	case api.Required, api.Optional:
		return isConstant(t) || len(p.Const) != 0
	case api.Constant:
		return !(isConstant(t) && slices.Equal(t.Const, p.Const)) && !v.isWordOfEnum(p)
	}
	return true
}

// isWordOfEnum tells whether a field's constant is a value of its enum that is there as early as the field.
func (v *validator) isWordOfEnum(p api.Part) bool {
	if v.Types[p.Type].Kind != api.TypeEnum || len(p.Const) != 1 {
		return false
	}
	value, known := v.valuesOf(p.Type)[p.Const[0]]
	return known && value.Since <= p.Since
}

// valuesOf is an enum's values by their words.
func (v *validator) valuesOf(place int) map[uint64]api.Named {
	values, known := v.values[place]
	if !known {
		values = map[uint64]api.Named{}
		for _, value := range v.Types[place].Values {
			values[value.Value] = value
		}
		v.values[place] = values
	}
	return values
}

// isFieldLaidBadly tells of a field that it has another size than its type, or lies over the one ahead.
func (v *validator) isFieldLaidBadly(i int) bool {
	p := v.Parts[i]
	if p.Kind != api.PartField {
		return false
	}
	if p.Size != sizeOf(p, v.Types[p.Type]) {
		return true
	}
	if p.Size == 0 {
		return p.Offset != 0
	}
	return p.Offset < v.holder(p).end()
}

// isFieldBeyond tells of a field that it reaches behind the longest block; the sum could wrap, the difference can't.
func (v *validator) isFieldBeyond(i int) bool {
	p := v.Parts[i]
	return p.Offset > api.MaxBlock-p.Size
}
