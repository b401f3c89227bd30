package schema

import (
	"slices"
	"strings"

	"stencil/api"
	"stencil/types"
)

// builder makes a schema of declarations.
type builder struct {
	review
	said   []api.Decl                   // by place in Parts: the declaration
	byName map[string]int               // the types' places
	values map[int]map[string]api.Named // of the enums that were asked, by place
}

// build makes the schema that declarations say, up to the first fault.
func build(ds []api.Decl) (s api.Schema, fault api.Fault) {
	defer func() {
		if caught := recover(); caught != nil {
			s, fault = api.Schema{}, caught.(api.Fault)
		}
	}()
	ts, err, at := types.Resolve(ds)
	demandOK(err, at)
	b := newBuilder(ts)
	b.readSchema(ds[0])
	b.askValues(ds)
	b.readParts(ds)
	b.layBlocks()
	b.renewConstants()
	return b.Schema, api.Fault{}
}

// giveUp leaves the building for its face.
func giveUp(err api.Errno, at int) { panic(api.Fault{Err: err, At: at}) }

func demandOK(err api.Errno, at int) {
	if err != api.OK {
		giveUp(err, at)
	}
}

// newBuilder keeps the types, in which no two have one name.
func newBuilder(ts []api.TypeNode) *builder {
	b := &builder{byName: map[string]int{}, values: map[int]map[string]api.Named{}}
	b.review = newReview(api.Schema{Types: ts}, api.Head{})
	for i, n := range ts {
		if n.Depth == 1 {
			b.byName[n.Name] = i
		}
	}
	return b
}

// typeNamed is a type's place; -1: there is none. (types.Find would go through all types for each part.)
func (b *builder) typeNamed(name string) int {
	place, known := b.byName[name]
	if !known {
		return -1
	}
	return place
}

func (b *builder) readSchema(d api.Decl) {
	b.Package, b.ID, b.Version, b.Order = strings.Clone(d.Name), d.ID, d.Version, d.Order
	b.Header = b.typeNamed(d.Type)
	if b.Header < 0 {
		giveUp(api.ErrTypeNone, d.At)
	}
	head, ok := types.HeadOf(b.Types, b.Header)
	b.head = head
	if !ok || b.hasBadHeader() {
		giveUp(api.ErrHeader, d.At)
	}
}

// askValues asks the values of enums and the bits of sets, which types.Resolve has no version for.
func (b *builder) askValues(ds []api.Decl) {
	for _, d := range ds {
		if (d.Kind == api.DeclValid || d.Kind == api.DeclChoice) && d.Since > b.Version {
			giveUp(api.ErrSince, d.At)
		}
	}
}

func (b *builder) readParts(ds []api.Decl) {
	checks := b.checks()
	for _, d := range ds {
		if d.Kind < api.DeclMessage {
			continue
		}
		i := len(b.Parts)
		b.said = append(b.said, d)
		b.Parts = append(b.Parts, b.partSaid(d))
		demandOK(firstBroken(checks, i), d.At)
		b.pass(i, d.Offset)
	}
}

func (b *builder) checks() []check {
	return []check{
		{api.ErrIDTwice, b.hasIDTwice},
		{api.ErrNameTwice, b.hasNameTwice},
		{api.ErrPartOrder, b.isMisplaced},
		{api.ErrNest, b.isNested},
		{api.ErrTypeNone, b.hasNoType},
		{api.ErrTypeKind, b.isFieldThatVaries},
		{api.ErrTypeValue, b.isFieldSaidBadly},
		{api.ErrDimension, b.isGroupOfNoDim},
		{api.ErrLengthType, b.isDataOfNoLength},
		{api.ErrSince, b.hasBadSince},
		{api.ErrNotOptional, b.isLateAndRequired},
	}
}

// partSaid is the part that a declaration says, as far as it says one, and but for what is laid.
func (b *builder) partSaid(d api.Decl) api.Part {
	p := api.Part{Depth: d.Depth - 1, Name: strings.Clone(d.Name), ID: d.ID, Since: d.Since, Deprecated: d.Deprecated}
	p.Kind = api.PartKind(d.Kind - api.DeclMessage)
	if p.Kind == api.PartMessage {
		return p
	}
	p.Type = b.typeNamed(d.Type)
	if p.Kind == api.PartField && p.Type >= 0 {
		p.Presence, p.Const, _ = b.presenceSaid(d, p.Type)
		p.Size = sizeOf(p, b.Types[p.Type])
	}
	return p
}

// sizeOf is how many bytes a field takes.
func sizeOf(field api.Part, t api.TypeNode) int {
	if field.Presence == api.Constant {
		return 0
	}
	return t.Size
}

// presenceSaid is what a field's declaration, with its type, says of its presence, and its constant; false, if that can't be. (Only simple types have a Presence other than Required.)
func (b *builder) presenceSaid(d api.Decl, place int) (api.Presence, []uint64, bool) {
	t := b.Types[place]
	switch {
	case isConstant(t):
		return api.Constant, t.Const, d.Value == "" && (!d.HasPresence || d.Presence == api.Constant)
	case d.Presence == api.Constant:
		word, ok := b.wordNamed(d, place)
		return api.Constant, []uint64{word}, ok
	case d.HasPresence:
		return d.Presence, nil, d.Value == ""
	}
	return t.Presence, nil, d.Value == ""
}

// wordNamed is the value that a field's valueRef names.
func (b *builder) wordNamed(d api.Decl, place int) (uint64, bool) {
	enum, name, _ := strings.Cut(d.Value, ".")
	if enum != d.Type || b.Types[place].Kind != api.TypeEnum {
		return 0, false
	}
	v, known := b.valuesOf(place)[name]
	return v.Value, known && v.Since <= d.Since
}

// valuesOf is an enum's values by their names.
func (b *builder) valuesOf(place int) map[string]api.Named {
	values, known := b.values[place]
	if !known {
		values = map[string]api.Named{}
		for _, v := range b.Types[place].Values {
			values[v.Name] = v
		}
		b.values[place] = values
	}
	return values
}

func (b *builder) hasNoType(i int) bool { return b.Parts[i].Type < 0 }

func (b *builder) isFieldSaidBadly(i int) bool {
	if b.Parts[i].Kind != api.PartField {
		return false
	}
	_, _, ok := b.presenceSaid(b.said[i], b.Parts[i].Type)
	return !ok
}

// layBlocks lays the fields, once all parts have been read.
func (b *builder) layBlocks() {
	checks := []check{{api.ErrHeader, b.isBeyondHeader}, {api.ErrDimension, b.isBeyondDim}}
	for _, l := range b.layouts {
		d := b.said[l.place]
		if err, blamed := l.lay(b.Parts, d.Block); err != api.OK {
			giveUp(err, b.said[blamed].At)
		}
		demandOK(firstBroken(checks, l.place), d.At)
	}
}

// renewConstants parts the fields' constants from the types'. It comes last, since many fields may have one long constant, and no room need be spent on a schema that is refused.
func (b *builder) renewConstants() {
	for i := range b.Parts {
		b.Parts[i].Const = slices.Clone(b.Parts[i].Const)
	}
}
