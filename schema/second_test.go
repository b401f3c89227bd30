package schema_test

import (
	"regexp"
	"slices"
	"strings"

	"stencil/api"
	"stencil/lay"
	"stencil/types"
)

// The greatest number that each of the number types tells.
var greatest = map[api.Prim]int{api.Uint8: 254, api.Uint16: 65534, api.Uint32: 4294967294}

var (
	symbol = regexp.MustCompile(`\A[A-Za-z_][A-Za-z0-9_]{0,63}\z`)
	dotted = regexp.MustCompile(`\A[A-Za-z_][A-Za-z0-9_]{0,63}(\.[A-Za-z_][A-Za-z0-9_]{0,63})*\z`)
)

// row is parts, asked by going through them from one end to the other.
type row []api.Part

// holder is the place of what a part stands right inside; -1 of a message.
func (ps row) holder(i int) int {
	for k := i - 1; k >= 0; k-- {
		if ps[k].Depth == ps[i].Depth-1 {
			return k
		}
	}
	return -1
}

// message is the place of the message that a part stands in.
func (ps row) message(i int) int {
	for ps[i].Kind != api.PartMessage {
		i--
	}
	return i
}

// fellows is the places of the parts ahead right inside the same; of a message the messages ahead.
func (ps row) fellows(i int) []int {
	var places []int
	for k := range i {
		if ps[k].Depth == ps[i].Depth && ps.holder(k) == ps.holder(i) {
			places = append(places, k)
		}
	}
	return places
}

// inside is the places of the parts right inside one.
func (ps row) inside(i int) []int {
	var places []int
	for k := i + 1; k < len(ps); k++ {
		if ps.holder(k) == i && ps[k].Kind != api.PartMessage {
			places = append(places, k)
		}
	}
	return places
}

func (ps row) last(i int, kinds ...api.PartKind) int {
	last := -1
	for _, k := range ps.fellows(i) {
		if slices.Contains(kinds, ps[k].Kind) {
			last = k
		}
	}
	return last
}

func (ps row) idTwice(i int) bool {
	for k := range i {
		if ps[i].Kind == api.PartMessage {
			if ps[k].Kind == api.PartMessage && ps[k].ID == ps[i].ID {
				return true
			}
		} else if ps[k].Kind != api.PartMessage && ps[k].ID == ps[i].ID && ps.message(k) == ps.message(i) {
			return true
		}
	}
	return false
}

func (ps row) nameTwice(i int) bool {
	return slices.ContainsFunc(ps.fellows(i), func(k int) bool { return ps[k].Name == ps[i].Name })
}

func (ps row) disorder(i int) bool {
	switch ps[i].Kind {
	case api.PartField:
		return ps.last(i, api.PartGroup, api.PartData) >= 0
	case api.PartGroup:
		return ps.last(i, api.PartData) >= 0
	}
	return false
}

func (ps row) tooNested(i int) bool {
	groups := 0
	for k := i; k >= 0; k = ps.holder(k) {
		if ps[k].Kind == api.PartGroup {
			groups++
		}
	}
	return ps[i].Kind == api.PartGroup && groups > 8
}

func (ps row) badSince(i, version int) bool {
	p, h := ps[i], ps.holder(i)
	if p.Since > version {
		return true
	}
	if h < 0 {
		return false
	}
	if p.Since < ps[h].Since {
		return true
	}
	if p.Kind == api.PartField {
		k := ps.last(i, api.PartField)
		return k >= 0 && p.Since < ps[k].Since
	}
	if ps[h].Kind == api.PartGroup {
		return p.Since != ps[h].Since
	}
	k := ps.last(i, api.PartGroup, api.PartData)
	return k >= 0 && p.Since < ps[k].Since
}

func (ps row) notOptional(i int) bool {
	return ps[i].Kind == api.PartField && ps[i].Since > ps[ps.holder(i)].Since && ps[i].Presence == api.Required
}

// varies tells whether a type is a composite that has variable data.
func varies(ts []api.TypeNode, i int) bool {
	if ts[i].Kind != api.TypeComposite {
		return false
	}
	for k := i + 1; k < len(ts) && ts[k].Depth > ts[i].Depth; k++ {
		if ts[k].Kind == api.TypeSimple && ts[k].Length == 0 {
			return true
		}
	}
	return false
}

func isConst(n api.TypeNode) bool {
	return n.Kind == api.TypeSimple && n.Presence == api.Constant
}

// beyond is the error of a message or group whose numbers can't be told.
func beyond(s api.Schema, i int) api.Errno {
	p := s.Parts[i]
	if p.Kind == api.PartMessage {
		h, _ := types.HeadOf(s.Types, s.Header)
		if p.Block > greatest[h.Block.Prim] || p.ID > greatest[h.Template.Prim] {
			return api.ErrHeader
		}
		return api.OK
	}
	b, _, _ := types.DimOf(s.Types, p.Type)
	if p.Block > greatest[b.Prim] {
		return api.ErrDimension
	}
	return api.OK
}

// secondBuild is Build again, from the chapter's words.
func secondBuild(ds []api.Decl) (api.Schema, api.Errno, int) {
	ts, e, at := types.Resolve(ds)
	if e != api.OK {
		return api.Schema{}, e, at
	}
	top := ds[0]
	s := api.Schema{Package: top.Name, ID: top.ID, Version: top.Version, Order: top.Order, Header: types.Find(ts, top.Type), Types: ts}
	if s.Header == -1 {
		return api.Schema{}, api.ErrTypeNone, top.At
	}
	if h, ok := types.HeadOf(ts, s.Header); !ok || top.ID > greatest[h.Schema.Prim] || top.Version > greatest[h.Version.Prim] {
		return api.Schema{}, api.ErrHeader, top.At
	}
	for _, d := range ds {
		if (d.Kind == api.DeclValid || d.Kind == api.DeclChoice) && d.Since > top.Version {
			return api.Schema{}, api.ErrSince, d.At
		}
	}
	var said []api.Decl
	for _, d := range ds {
		if d.Kind != api.DeclMessage && d.Kind != api.DeclField && d.Kind != api.DeclGroup && d.Kind != api.DeclData {
			continue
		}
		said = append(said, d)
		if e := secondPart(&s, d); e != api.OK {
			return api.Schema{}, e, d.At
		}
	}
	for i, p := range s.Parts {
		if p.Kind != api.PartMessage && p.Kind != api.PartGroup {
			continue
		}
		if e, at := secondLay(&s, said, i); e != api.OK {
			return api.Schema{}, e, at
		}
		if e := beyond(s, i); e != api.OK {
			return api.Schema{}, e, said[i].At
		}
	}
	return s, api.OK, 0
}

// secondLay lays the sized fields right inside a message or group.
func secondLay(s *api.Schema, said []api.Decl, i int) (api.Errno, int) {
	var rooms []api.Room
	var fields []int
	for _, k := range row(s.Parts).inside(i) {
		if s.Parts[k].Kind == api.PartField && s.Parts[k].Size > 0 {
			rooms = append(rooms, api.Room{Size: s.Parts[k].Size, Offset: said[k].Offset})
			fields = append(fields, k)
		}
	}
	offsets, block, e, n := lay.Place(rooms, said[i].Block)
	if e != api.OK {
		return e, said[append(fields, i)[n]].At
	}
	for k, field := range fields {
		s.Parts[field].Offset = offsets[k]
	}
	s.Parts[i].Block = block
	return api.OK, 0
}

// secondPart puts one more part into a schema, or tells why it may not be there.
func secondPart(s *api.Schema, d api.Decl) api.Errno {
	kinds := map[api.DeclKind]api.PartKind{api.DeclMessage: api.PartMessage, api.DeclField: api.PartField, api.DeclGroup: api.PartGroup, api.DeclData: api.PartData}
	p := api.Part{Depth: d.Depth - 1, Kind: kinds[d.Kind], Name: d.Name, ID: d.ID, Since: d.Since, Deprecated: d.Deprecated}
	i := len(s.Parts)
	s.Parts = append(s.Parts, p)
	ps := row(s.Parts)
	switch {
	case ps.idTwice(i):
		return api.ErrIDTwice
	case ps.nameTwice(i):
		return api.ErrNameTwice
	case ps.disorder(i):
		return api.ErrPartOrder
	case ps.tooNested(i):
		return api.ErrNest
	}
	if p.Kind != api.PartMessage {
		p.Type = types.Find(s.Types, d.Type)
		if p.Type == -1 {
			return api.ErrTypeNone
		}
	}
	switch p.Kind {
	case api.PartField:
		if varies(s.Types, p.Type) {
			return api.ErrTypeKind
		}
		if !secondPresence(&p, d, s.Types[p.Type]) {
			return api.ErrTypeValue
		}
	case api.PartGroup:
		if _, _, ok := types.DimOf(s.Types, p.Type); !ok {
			return api.ErrDimension
		}
	case api.PartData:
		if _, _, ok := types.DataOf(s.Types, p.Type); !ok {
			return api.ErrLengthType
		}
	}
	s.Parts[i] = p
	if ps.badSince(i, s.Version) {
		return api.ErrSince
	}
	if ps.notOptional(i) {
		return api.ErrNotOptional
	}
	return api.OK
}

// secondPresence fills in a field's Presence, Const and Size; false: ErrTypeValue.
func secondPresence(p *api.Part, d api.Decl, n api.TypeNode) bool {
	written := d.HasPresence && d.Presence == api.Constant
	if isConst(n) {
		p.Presence, p.Const = api.Constant, slices.Clone(n.Const)
		return d.Value == "" && (written || !d.HasPresence)
	}
	if !written && d.Value != "" {
		return false
	}
	if written {
		p.Presence = api.Constant
		for _, v := range n.Values {
			if n.Kind == api.TypeEnum && d.Value == d.Type+"."+v.Name && v.Since <= d.Since {
				p.Const = []uint64{v.Value}
				return true
			}
		}
		return false
	}
	p.Size = n.Size
	switch {
	case d.HasPresence:
		p.Presence = d.Presence
	case n.Kind == api.TypeSimple:
		p.Presence = n.Presence
	default:
		p.Presence = api.Required
	}
	return true
}

// secondValid is Valid again, from the chapter's words.
func secondValid(s api.Schema) (api.Errno, int) {
	if !dotted.MatchString(s.Package) || len(s.Package) > 255 || s.ID < 0 || s.ID > 65535 || s.Version < 0 || s.Version > 65534 || s.Order != 0 && s.Order != 1 {
		return api.ErrSchemaMade, -1
	}
	if e, _ := types.Check(s.Types); e != api.OK {
		return e, -1
	}
	h, ok := types.HeadOf(s.Types, s.Header)
	if !ok || s.Types[s.Header].Depth != 1 || s.ID > greatest[h.Schema.Prim] || s.Version > greatest[h.Version.Prim] {
		return api.ErrHeader, -1
	}
	for _, n := range s.Types {
		for _, v := range n.Values {
			if v.Since > s.Version {
				return api.ErrSince, -1
			}
		}
	}
	for i := range s.Parts {
		if e := secondFault(s, i); e != api.OK {
			return e, i
		}
	}
	for i, p := range s.Parts {
		if p.Kind != api.PartMessage && p.Kind != api.PartGroup {
			continue
		}
		end := 0
		for _, k := range row(s.Parts).inside(i) {
			if q := s.Parts[k]; q.Kind == api.PartField && q.Size > 0 {
				end = max(end, q.Offset+q.Size)
			}
		}
		if p.Block < end || p.Block > 65535 {
			return api.ErrLayBlock, i
		}
		if e := beyond(s, i); e != api.OK {
			return e, i
		}
	}
	return api.OK, 0
}

// secondMade tells whether a part is shaped as its Kind is; those ahead are.
func secondMade(s api.Schema, i int) bool {
	p := s.Parts[i]
	has := map[api.PartKind]string{api.PartMessage: "Block", api.PartField: "Type Presence Offset Size Const", api.PartGroup: "Type Block", api.PartData: "Type"}
	fields, known := has[p.Kind]
	if !known {
		return false
	}
	for name, zero := range map[string]bool{"Type": p.Type == 0, "Presence": p.Presence == 0, "Offset": p.Offset == 0, "Size": p.Size == 0, "Block": p.Block == 0, "Const": len(p.Const) == 0} {
		if !zero && !slices.Contains(strings.Fields(fields), name) {
			return false
		}
	}
	if p.Kind == api.PartMessage {
		if p.Depth != 1 {
			return false
		}
	} else {
		if p.Depth < 2 || i == 0 {
			return false
		}
		ahead := s.Parts[i-1]
		most := ahead.Depth
		if ahead.Kind == api.PartMessage || ahead.Kind == api.PartGroup {
			most = ahead.Depth + 1
		}
		if p.Depth > most {
			return false
		}
	}
	return symbol.MatchString(p.Name) && p.ID >= 0 && p.ID <= 65535 && p.Deprecated >= -1 && p.Deprecated <= 65534 && p.Since >= 0 &&
		p.Type >= 0 && p.Type < len(s.Types) && s.Types[p.Type].Depth == 1
}

// secondFault is what Valid says of one part.
func secondFault(s api.Schema, i int) api.Errno {
	if !secondMade(s, i) {
		return api.ErrSchemaMade
	}
	p, ps := s.Parts[i], row(s.Parts[:i+1])
	n := s.Types[p.Type]
	_, _, isDim := types.DimOf(s.Types, p.Type)
	_, _, isData := types.DataOf(s.Types, p.Type)
	field := p.Kind == api.PartField
	switch {
	case ps.idTwice(i):
		return api.ErrIDTwice
	case ps.nameTwice(i):
		return api.ErrNameTwice
	case ps.disorder(i):
		return api.ErrPartOrder
	case ps.tooNested(i):
		return api.ErrNest
	case field && varies(s.Types, p.Type):
		return api.ErrTypeKind
	case field && !secondConst(p, n):
		return api.ErrTypeValue
	case p.Kind == api.PartGroup && !isDim:
		return api.ErrDimension
	case p.Kind == api.PartData && !isData:
		return api.ErrLengthType
	case ps.badSince(i, s.Version):
		return api.ErrSince
	case ps.notOptional(i):
		return api.ErrNotOptional
	}
	if !field {
		return api.OK
	}
	size := n.Size
	if p.Presence == api.Constant {
		size = 0
	}
	end := 0
	for _, k := range ps.fellows(i) {
		if ps[k].Kind == api.PartField && ps[k].Size > 0 {
			end = ps[k].Offset + ps[k].Size
		}
	}
	switch {
	case p.Size != size, p.Size == 0 && p.Offset != 0, p.Size > 0 && (p.Offset < 0 || p.Offset < end):
		return api.ErrLayOver
	case p.Offset > 65535 || p.Offset+p.Size > 65535:
		return api.ErrLayBig
	}
	return api.OK
}

func secondConst(p api.Part, n api.TypeNode) bool {
	switch p.Presence {
	case api.Required, api.Optional:
		return !isConst(n) && len(p.Const) == 0
	case api.Constant:
		if isConst(n) && slices.Equal(n.Const, p.Const) {
			return true
		}
		return n.Kind == api.TypeEnum && len(p.Const) == 1 && slices.ContainsFunc(n.Values, func(v api.Named) bool {
			return v.Value == p.Const[0] && v.Since <= p.Since
		})
	}
	return false
}
