package types_test

import (
	"math"
	"regexp"
	"slices"
	"strings"

	"stencil/api"
	"stencil/decl"
	"stencil/number"
)

// primRow is what DOC.md says of a primitive type.
type primRow struct {
	name           string
	size           int
	null, min, max uint64
}

func word(n int64) uint64 { return uint64(n) }

var prims = []primRow{
	{"char", 1, 0, 32, 126},
	{"int8", 1, word(-128), word(-127), 127},
	{"int16", 2, word(-32768), word(-32767), 32767},
	{"int32", 4, word(-2147483648), word(-2147483647), 2147483647},
	{"int64", 8, word(math.MinInt64), word(math.MinInt64 + 1), math.MaxInt64},
	{"uint8", 1, 255, 0, 254},
	{"uint16", 2, 65535, 0, 65534},
	{"uint32", 4, 4294967295, 0, 4294967294},
	{"uint64", 8, math.MaxUint64, 0, math.MaxUint64 - 1},
	{"float", 4, 0x7fc00000, 0, 0xffffffff},
	{"double", 8, 0x7ff8000000000000, 0, math.MaxUint64},
}

var symbol = regexp.MustCompile(`\A[A-Za-z_][A-Za-z0-9_]{0,63}\z`)

func primNamed(name string) (api.Prim, bool) {
	n := slices.IndexFunc(prims, func(row primRow) bool { return row.name == name })
	return api.Prim(max(n, 0)), n >= 0
}

// isWord tells whether a word is one of a primitive type.
func isWord(p api.Prim, w uint64) bool {
	if p < 0 || int(p) >= len(prims) {
		return false
	}
	bits := 8 * prims[p].size
	if p >= api.Int8 && p <= api.Int64 {
		shift := 64 - bits
		return uint64(int64(w<<shift)>>shift) == w
	}
	return bits == 64 || w < 1<<bits
}

func secondBasic() []api.TypeNode {
	var ts []api.TypeNode
	for p, row := range prims {
		ts = append(ts, api.TypeNode{Depth: 1, Name: row.name, Prim: api.Prim(p), Length: 1, Size: row.size, Null: row.null, Min: row.min, Max: row.max})
	}
	return ts
}

// second is declarations, asked by going through them from one end to the other.
type second []api.Decl

// holder is the place of what a declaration stands right inside; -1 of the schema.
func (ds second) holder(i int) int {
	for k := i - 1; k >= 0; k-- {
		if ds[k].Depth == ds[i].Depth-1 {
			return k
		}
	}
	return -1
}

func (ds second) isIn(i int, kind api.DeclKind) bool {
	h := ds.holder(i)
	return h >= 0 && ds[h].Kind == kind
}

func (ds second) kids(i int) []int {
	var kids []int
	for k := i + 1; k < len(ds) && ds[k].Depth > ds[i].Depth; k++ {
		if ds[k].Depth == ds[i].Depth+1 {
			kids = append(kids, k)
		}
	}
	return kids
}

func (ds second) isType(i int) bool { return ds.isIn(i, api.DeclTypes) }

func (ds second) types() []int {
	var all []int
	in := api.DeclSchema
	for i, d := range ds {
		if d.Depth == 2 {
			in = d.Kind
		} else if d.Depth == 3 && in == api.DeclTypes {
			all = append(all, i)
		}
	}
	return all
}

// named is the place of the type declaration of a name.
func (ds second) named(name string) int {
	for _, i := range ds.types() {
		if ds[i].Name == name {
			return i
		}
	}
	return -1
}

// twice tells whether a declaration ahead, in the same one, has the same name.
func (ds second) twice(i int) bool {
	for _, k := range ds.kids(ds.holder(i)) {
		if k < i && ds[k].Name == ds[i].Name {
			return true
		}
	}
	return false
}

func (ds second) length(i int) int {
	d := ds[i]
	if d.Length != -1 {
		return d.Length
	}
	if d.Presence == api.Constant && d.Type == "char" && d.Value != "" {
		return len(d.Value)
	}
	return 1
}

// elements is what a constant's text says; false, if it doesn't.
func (ds second) elements(i int) ([]uint64, bool) {
	p, _ := primNamed(ds[i].Type)
	if p == api.Char {
		var words []uint64
		for _, b := range []byte(ds[i].Value) {
			words = append(words, uint64(b))
		}
		for len(words) < ds.length(i) {
			words = append(words, 0)
		}
		return words, ds[i].Value != "" && len(words) == ds.length(i)
	}
	words, e, _ := number.List(p, ds[i].Value)
	return words, ds[i].Value != "" && e == api.OK && len(words) == ds.length(i)
}

func (ds second) faultOfType(i int) api.Errno {
	d := ds[i]
	p, ok := primNamed(d.Type)
	if !ok {
		return api.ErrTypeNone
	}
	length, constant := ds.length(i), d.Presence == api.Constant
	if length > 65535 || !constant && length*prims[p].size > 65535 {
		return api.ErrTypeLength
	}
	if length == 0 {
		h := ds.holder(i)
		kids := ds.kids(h)
		if ds[h].Kind != api.DeclComposite || kids[len(kids)-1] != i || !ds.isType(h) || constant {
			return api.ErrTypeLength
		}
		return api.OK
	}
	if constant {
		if _, ok := ds.elements(i); !ok {
			return api.ErrTypeValue
		}
	}
	for _, s := range []string{d.Null, d.Min, d.Max} {
		if _, e, _ := number.Parse(p, s); s != "" && e != api.OK {
			return api.ErrTypeValue
		}
	}
	return api.OK
}

// encoding is an enum's or set's primitive type, and the place of the type declaration that it names (-1: it names a primitive type).
func (ds second) encoding(i int) (api.Prim, int, api.Errno) {
	named := -1
	p, ok := primNamed(ds[i].Type)
	if !ok {
		if named = ds.named(ds[i].Type); named < 0 {
			return 0, 0, api.ErrTypeNone
		}
		t := ds[named]
		if t.Kind != api.DeclType || t.Presence == api.Constant || ds.length(named) != 1 {
			return 0, 0, api.ErrTypeKind
		}
		if p, ok = primNamed(t.Type); !ok {
			return 0, 0, api.ErrTypeKind
		}
	}
	if ds[i].Kind == api.DeclEnum && (p == api.Float || p == api.Double) {
		return 0, 0, api.ErrTypeKind
	}
	if ds[i].Kind == api.DeclSet && !strings.HasPrefix(prims[p].name, "uint") {
		return 0, 0, api.ErrTypeKind
	}
	return p, named, api.OK
}

// value is what a validValue or choice says.
func (ds second) value(i int) (uint64, api.Errno) {
	p, _, _ := ds.encoding(ds.holder(i))
	if ds[i].Kind == api.DeclValid {
		w, e, _ := number.Parse(p, ds[i].Value)
		return w, e
	}
	n, e, _ := number.Int(ds[i].Value, 8*prims[p].size-1)
	return uint64(n), e
}

func (ds second) faultOfValue(i int) api.Errno {
	if ds.twice(i) {
		return api.ErrTypeTwice
	}
	w, e := ds.value(i)
	if e != api.OK {
		return api.ErrTypeEnum
	}
	for _, k := range ds.kids(ds.holder(i)) {
		if other, _ := ds.value(k); k < i && other == w {
			return api.ErrTypeEnum
		}
	}
	return api.OK
}

func (ds second) faultOfRef(i int) api.Errno {
	if _, ok := primNamed(ds[i].Type); ok {
		return api.OK
	}
	named := ds.named(ds[i].Type)
	if named < 0 {
		return api.ErrTypeNone
	}
	for _, k := range ds.kids(named) {
		if ds[named].Kind == api.DeclComposite && ds[k].Kind == api.DeclType && ds[k].Length == 0 {
			return api.ErrTypeKind
		}
	}
	return api.OK
}

// fault is the third item of the chapter's list, of one declaration.
func (ds second) fault(i int) api.Errno {
	if ds.isIn(i, api.DeclComposite) && ds.twice(i) {
		return api.ErrTypeTwice
	}
	switch ds[i].Kind {
	case api.DeclType:
		return ds.faultOfType(i)
	case api.DeclEnum, api.DeclSet:
		_, _, e := ds.encoding(i)
		return e
	case api.DeclValid, api.DeclChoice:
		return ds.faultOfValue(i)
	case api.DeclRef:
		return ds.faultOfRef(i)
	}
	return api.OK
}

// leads tells whether refs lead from a type declaration to another (or back to it).
func (ds second) leads(from, to int, been []int) ([]int, bool) {
	for k := from + 1; k < len(ds) && ds[k].Depth > ds[from].Depth; k++ {
		named := -1
		if ds[k].Kind == api.DeclRef {
			named = ds.named(ds[k].Type)
		}
		if named == to {
			return been, true
		}
		if named < 0 || slices.Contains(been, named) {
			continue
		}
		found := false
		if been, found = ds.leads(named, to, append(been, named)); found {
			return been, true
		}
	}
	return been, false
}

// count counts nodes and composites in one another, up to one beyond their limits.
func (ds second) count(i, nest int, nodes *int, deepest *int) {
	if *nodes++; *nodes > 20000 || *deepest > 16 {
		return
	}
	if ds[i].Kind == api.DeclRef {
		if named := ds.named(ds[i].Type); named >= 0 {
			*nodes--
			ds.count(named, nest, nodes, deepest)
		}
		return
	}
	if ds[i].Kind == api.DeclComposite {
		*deepest = max(*deepest, nest+1)
		for _, k := range ds.kids(i) {
			ds.count(k, nest+1, nodes, deepest)
		}
	}
}

// layer lays composites in the chapter's order; laid has those that are.
type layer struct {
	second
	laid map[int][]api.TypeNode
	at   int
	err  api.Errno
}

// nodes is what a declaration says; nil, where something in it is refused.
func (l *layer) nodes(i int) []api.TypeNode {
	d := l.second[i]
	switch d.Kind {
	case api.DeclType:
		return []api.TypeNode{l.simple(i)}
	case api.DeclEnum, api.DeclSet:
		return []api.TypeNode{l.coded(i)}
	case api.DeclRef:
		var ns []api.TypeNode
		if p, ok := primNamed(d.Type); ok {
			ns = secondBasic()[p : p+1]
		} else {
			ns = slices.Clone(l.nodes(l.named(d.Type)))
		}
		if ns != nil {
			ns[0].Name = d.Name
		}
		return ns
	}
	if _, done := l.laid[i]; !done {
		l.laid[i] = l.composite(i)
	}
	return l.laid[i]
}

func (l *layer) simple(i int) api.TypeNode {
	d := l.second[i]
	p, _ := primNamed(d.Type)
	n := secondBasic()[p]
	n.Name, n.Length = d.Name, l.length(i)
	n.Size *= n.Length
	if n.Length == 0 {
		return n
	}
	n.Presence = d.Presence
	if n.Presence == api.Constant {
		n.Size = 0
		n.Const, _ = l.elements(i)
	}
	if d.Null != "" {
		n.Null, _, _ = number.Parse(p, d.Null)
	}
	if d.Min != "" {
		n.Min, _, _ = number.Parse(p, d.Min)
	}
	if d.Max != "" {
		n.Max, _, _ = number.Parse(p, d.Max)
	}
	return n
}

func (l *layer) coded(i int) api.TypeNode {
	p, named, _ := l.encoding(i)
	n := secondBasic()[p]
	if named >= 0 {
		n = l.simple(named)
	}
	n.Kind, n.Name, n.Presence = api.TypeEnum, l.second[i].Name, api.Required
	if l.second[i].Kind == api.DeclSet {
		n.Kind, n.Null = api.TypeSet, 0
	}
	for _, k := range l.kids(i) {
		w, _ := l.value(k)
		n.Values = append(n.Values, api.Named{Name: l.second[k].Name, Value: w, Since: l.second[k].Since})
	}
	return n
}

func (l *layer) composite(i int) []api.TypeNode {
	ns := []api.TypeNode{{Depth: 1, Kind: api.TypeComposite, Name: l.second[i].Name}}
	for _, k := range l.kids(i) {
		if l.nodes(k); l.err != api.OK {
			return nil
		}
	}
	end := 0
	for _, k := range l.kids(i) {
		inner := slices.Clone(l.nodes(k))
		for n := range inner {
			inner[n].Depth++
		}
		if first := &inner[0]; first.Size > 0 || first.Kind == api.TypeSimple && first.Length == 0 {
			first.Offset = end
			if written := l.second[k].Offset; written >= 0 {
				first.Offset = written
			}
			if first.Offset < end || first.Offset+first.Size > 65535 {
				l.err, l.at = api.ErrTypeOffset, l.second[k].At
				return nil
			}
			end = first.Offset + first.Size
		}
		ns = append(ns, inner...)
	}
	ns[0].Size = end
	return ns
}

// secondResolve is a second Resolve.
func secondResolve(list []api.Decl) ([]api.TypeNode, api.Errno, int) {
	ds := second(list)
	if _, e, _ := decl.Write(list); e != api.OK {
		return nil, api.ErrDeclMade, 0
	}
	types := ds.types()
	for n, i := range types {
		if _, taken := primNamed(ds[i].Name); taken {
			return nil, api.ErrTypeName, ds[i].At
		}
		for _, k := range types[:n] {
			if ds[k].Name == ds[i].Name {
				return nil, api.ErrTypeTwice, ds[i].At
			}
		}
	}
	for i := range ds {
		if ds[i].Kind > api.DeclTypes && ds[i].Kind < api.DeclMessage {
			if e := ds.fault(i); e != api.OK {
				return nil, e, ds[i].At
			}
		}
	}
	for _, i := range types {
		if _, found := ds.leads(i, i, nil); found {
			return nil, api.ErrTypeCycle, ds[i].At
		}
	}
	nodes := 11
	for _, i := range types {
		deepest := 0
		if ds.count(i, 0, &nodes, &deepest); nodes > 20000 || deepest > 16 {
			return nil, api.ErrTypeBig, ds[i].At
		}
	}
	l := layer{second: ds, laid: map[int][]api.TypeNode{}}
	ts := secondBasic()
	for _, i := range types {
		ns := l.nodes(i)
		if l.err != api.OK {
			return nil, l.err, l.at
		}
		ts = append(ts, ns...)
	}
	return ts, api.OK, 0
}

// held is the places of what a node holds.
func held(ts []api.TypeNode, i int) []int {
	var places []int
	for k := i + 1; k < len(ts) && ts[k].Depth > ts[i].Depth; k++ {
		places = append(places, k)
	}
	return places
}

func members(ts []api.TypeNode, i int) []int {
	return slices.DeleteFunc(held(ts, i), func(k int) bool { return ts[k].Depth != ts[i].Depth+1 })
}

// nodeHolder is the composite that a node stands right inside; -1 of a type.
func nodeHolder(ts []api.TypeNode, i int) int {
	for k := i - 1; k >= 0; k-- {
		if ts[k].Depth == ts[i].Depth-1 {
			return k
		}
	}
	return -1
}

func isVar(n api.TypeNode) bool { return n.Kind == api.TypeSimple && n.Length == 0 }

func sameNode(a, b api.TypeNode) bool {
	if len(a.Const) != len(b.Const) || len(a.Values) != len(b.Values) || !slices.Equal(a.Const, b.Const) || !slices.Equal(a.Values, b.Values) {
		return false
	}
	return a.Depth == b.Depth && a.Kind == b.Kind && a.Name == b.Name && a.Prim == b.Prim && a.Length == b.Length && a.Presence == b.Presence &&
		a.Offset == b.Offset && a.Size == b.Size && a.Null == b.Null && a.Min == b.Min && a.Max == b.Max
}

// within tells whether a number is from 0 to MaxBlock.
func within(n int) bool { return n >= 0 && n <= 65535 }

func kindFault(ts []api.TypeNode, i int) bool {
	n, most := ts[i], ts[i-1].Depth
	if ts[i-1].Kind == api.TypeComposite {
		most++
	}
	if i == 11 {
		most = 1
	}
	if n.Kind < 0 || n.Kind > 3 || n.Depth < 1 || n.Depth > most {
		return true
	}
	// What is left when the fields that the Kind has are taken away must be zero.
	rest := n
	rest.Depth, rest.Kind, rest.Name, rest.Offset, rest.Size = 0, 0, "", 0, 0
	if n.Kind != api.TypeComposite {
		rest.Prim, rest.Length, rest.Null, rest.Min, rest.Max = 0, 0, 0, 0, 0
	}
	if n.Kind == api.TypeSimple {
		rest.Presence, rest.Const = 0, nil
	}
	if n.Kind == api.TypeEnum || n.Kind == api.TypeSet {
		rest.Values = nil
	}
	return !sameNode(rest, api.TypeNode{}) || (n.Kind == api.TypeEnum || n.Kind == api.TypeSet) && n.Length != 1
}

func nameTwice(ts []api.TypeNode, i int) bool {
	for k := range i {
		if ts[k].Depth == ts[i].Depth && ts[k].Name == ts[i].Name && (ts[i].Depth == 1 || nodeHolder(ts, k) == nodeHolder(ts, i)) {
			return true
		}
	}
	return false
}

func lengthFault(ts []api.TypeNode, i int) bool {
	n := ts[i]
	if n.Kind != api.TypeSimple {
		return false
	}
	if n.Prim < 0 || n.Prim > 10 || n.Length < 0 || n.Length > 65535 {
		return true
	}
	row := prims[n.Prim]
	if n.Length == 0 {
		h := nodeHolder(ts, i)
		if n.Depth == 1 || ts[h].Depth != 1 {
			return true
		}
		all := held(ts, h)
		if all[len(all)-1] != i || n.Presence != api.Required || n.Null != row.null || n.Min != row.min || n.Max != row.max {
			return true
		}
	}
	if n.Presence == api.Constant {
		return n.Size != 0
	}
	return n.Size != n.Length*row.size || n.Size > 65535
}

func valueFault(n api.TypeNode) bool {
	if n.Kind != api.TypeSimple {
		return false
	}
	if n.Presence < 0 || n.Presence > 2 {
		return true
	}
	if n.Presence == api.Constant && len(n.Const) != n.Length || n.Presence != api.Constant && len(n.Const) != 0 {
		return true
	}
	for _, w := range append(slices.Clone(n.Const), n.Null, n.Min, n.Max) {
		if !isWord(n.Prim, w) {
			return true
		}
	}
	return false
}

func enumFault(n api.TypeNode) bool {
	set := n.Kind == api.TypeSet
	if !set && n.Kind != api.TypeEnum {
		return false
	}
	if n.Prim < 0 || n.Prim >= api.Float || set && n.Prim < api.Uint8 || n.Size != prims[n.Prim].size {
		return true
	}
	if !isWord(n.Prim, n.Null) || !isWord(n.Prim, n.Min) || !isWord(n.Prim, n.Max) || set && n.Null != 0 {
		return true
	}
	for i, v := range n.Values {
		if !symbol.MatchString(v.Name) || v.Since < 0 || v.Since > 65534 || set && v.Value >= uint64(8*n.Size) || !set && !isWord(n.Prim, v.Value) {
			return true
		}
		for _, other := range n.Values[:i] {
			if other.Name == v.Name || other.Value == v.Value {
				return true
			}
		}
	}
	return false
}

func offsetFault(ts []api.TypeNode, i int) bool {
	n := ts[i]
	if n.Kind == api.TypeComposite {
		end := 0
		for _, k := range members(ts, i) {
			m := ts[k]
			if (m.Size > 0 || isVar(m)) && within(m.Offset) && within(m.Size) {
				end = max(end, m.Offset+m.Size)
			}
		}
		if n.Size != end {
			return true
		}
	}
	if n.Depth == 1 || n.Size == 0 && !isVar(n) {
		return n.Offset != 0
	}
	end := 0
	for _, k := range members(ts, nodeHolder(ts, i)) {
		if m := ts[k]; k < i && (m.Size != 0 || isVar(m)) {
			end = max(end, m.Offset+m.Size)
		}
	}
	return n.Offset < end || n.Size < 0 || n.Offset > 65535 || n.Offset+n.Size > 65535
}

// secondCheck is a second Check.
func secondCheck(ts []api.TypeNode) (api.Errno, int) {
	for i, n := range secondBasic() {
		if i >= len(ts) || !sameNode(n, ts[i]) {
			return api.ErrTypeNone, i
		}
	}
	if len(ts) > 20000 {
		return api.ErrTypeBig, 20000
	}
	for i := 11; i < len(ts); i++ {
		n := ts[i]
		_, taken := primNamed(n.Name)
		switch {
		case kindFault(ts, i):
			return api.ErrTypeKind, i
		case n.Kind == api.TypeComposite && n.Depth > 16:
			return api.ErrTypeBig, i
		case !symbol.MatchString(n.Name) || n.Depth == 1 && taken:
			return api.ErrTypeName, i
		case nameTwice(ts, i):
			return api.ErrTypeTwice, i
		case lengthFault(ts, i):
			return api.ErrTypeLength, i
		case valueFault(n):
			return api.ErrTypeValue, i
		case enumFault(n):
			return api.ErrTypeEnum, i
		case offsetFault(ts, i):
			return api.ErrTypeOffset, i
		}
	}
	return api.OK, 0
}

func secondFind(ts []api.TypeNode, name string) int {
	for i, n := range ts {
		if n.Depth == 1 && n.Name == name {
			return i
		}
	}
	return -1
}

func secondLeaves(ts []api.TypeNode, i int) []int {
	if e, _ := secondCheck(ts); e != api.OK || i < 0 || i >= len(ts) {
		return nil
	}
	return slices.DeleteFunc(append([]int{i}, held(ts, i)...), func(k int) bool {
		n := ts[k]
		return n.Kind == api.TypeComposite || n.Kind == api.TypeSimple && (n.Presence == api.Constant || n.Length == 0)
	})
}

func secondNulls(ts []api.TypeNode, i int) []uint64 {
	var words []uint64
	for _, k := range secondLeaves(ts, i) {
		for range ts[k].Length {
			words = append(words, ts[k].Null)
		}
	}
	return words
}

// numbers is by name the members of a composite, if all are numbers of one element that are required.
func numbers(ts []api.TypeNode, i int) map[string]api.TypeNode {
	if e, _ := secondCheck(ts); e != api.OK || i < 0 || i >= len(ts) || ts[i].Kind != api.TypeComposite {
		return nil
	}
	found := map[string]api.TypeNode{}
	for _, k := range members(ts, i) {
		n := ts[k]
		if n.Kind != api.TypeSimple || n.Prim != api.Uint8 && n.Prim != api.Uint16 && n.Prim != api.Uint32 || n.Length != 1 || n.Presence != api.Required {
			return nil
		}
		found[n.Name] = n
	}
	return found
}

func secondHead(ts []api.TypeNode, i int) (api.Head, bool) {
	found := numbers(ts, i)
	var h api.Head
	for name, spot := range map[string]*api.Spot{"blockLength": &h.Block, "templateId": &h.Template, "schemaId": &h.Schema, "version": &h.Version} {
		n, ok := found[name]
		if !ok || len(found) != 4 {
			return api.Head{}, false
		}
		*spot = api.Spot{Prim: n.Prim, Offset: n.Offset}
	}
	h.Size = ts[i].Size
	return h, true
}

func secondDim(ts []api.TypeNode, i int) (api.Spot, api.Spot, bool) {
	found := numbers(ts, i)
	a, okA := found["blockLength"]
	b, okB := found["numInGroup"]
	if !okA || !okB || len(found) != 2 {
		return api.Spot{}, api.Spot{}, false
	}
	return api.Spot{Prim: a.Prim, Offset: a.Offset}, api.Spot{Prim: b.Prim, Offset: b.Offset}, true
}

func secondData(ts []api.TypeNode, i int) (api.Spot, api.Prim, bool) {
	if e, _ := secondCheck(ts); e != api.OK || i < 0 || i >= len(ts) || ts[i].Kind != api.TypeComposite {
		return api.Spot{}, 0, false
	}
	ms := members(ts, i)
	if len(ms) != 2 {
		return api.Spot{}, 0, false
	}
	l, v := ts[ms[0]], ts[ms[1]]
	if l.Name != "length" || l.Kind != api.TypeSimple || l.Length != 1 || l.Presence != api.Required || l.Offset != 0 || l.Prim != api.Uint8 && l.Prim != api.Uint16 && l.Prim != api.Uint32 {
		return api.Spot{}, 0, false
	}
	if v.Name != "varData" || v.Kind != api.TypeSimple || v.Length != 0 || v.Prim != api.Char && v.Prim != api.Uint8 || v.Offset != l.Size {
		return api.Spot{}, 0, false
	}
	return api.Spot{Prim: l.Prim, Offset: 0}, v.Prim, true
}
