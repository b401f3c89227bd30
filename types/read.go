package types

import (
	"stencil/api"
	"stencil/number"
	"stencil/prim"
)

// readType reads a simple type.
func (r *resolver) readType(i int) {
	d := r.ds[i]
	p, ok := PrimOf(d.Type)
	if !ok {
		r.refuse(i, api.ErrTypeNone)
	}
	n := basic(p)
	n.Name, n.Length = d.Name, lengthSaid(d)
	n.Size = n.Length * n.Size
	if d.Presence == api.Constant {
		n.Size = 0
	}
	if n.Length > api.MaxLength || n.Size > api.MaxBlock || n.Length == 0 && !r.mayVary(i) {
		r.refuse(i, api.ErrTypeLength)
	}
	if n.Length > 0 {
		r.readValues(i, &n)
	}
	r.own[i] = n
}

// lengthSaid is how many elements a simple type has.
func lengthSaid(d api.Decl) int {
	switch {
	case d.Length >= 0:
		return d.Length
	case d.Presence == api.Constant && d.Type == primNames[api.Char] && d.Value != "":
		return len(d.Value)
	}
	return 1
}

// mayVary tells whether a simple type stands where variable data may: last in a composite that is no member itself.
func (r *resolver) mayVary(i int) bool {
	last := i+1 == len(r.ds) || r.ds[i+1].Depth < memberDepth
	return r.ds[i].Depth == memberDepth && last && r.ds[i].Presence != api.Constant
}

// readValues reads what only a type that isn't variable data says.
func (r *resolver) readValues(i int, n *api.TypeNode) {
	d := r.ds[i]
	n.Presence = d.Presence
	if d.Presence == api.Constant {
		words, ok := elementsSaid(n.Prim, d.Value, n.Length)
		if !ok {
			r.refuse(i, api.ErrTypeValue)
		}
		n.Const = words
	}
	n.Null = r.readValue(i, n.Prim, d.Null, n.Null)
	n.Min = r.readValue(i, n.Prim, d.Min, n.Min)
	n.Max = r.readValue(i, n.Prim, d.Max, n.Max)
}

// elementsSaid is the elements that a constant's text says, if they are as many as it has.
func elementsSaid(p api.Prim, s string, length int) ([]uint64, bool) {
	if p != api.Char {
		words, err, _ := number.List(p, s)
		return words, err == api.OK && len(words) == length
	}
	if s == "" || len(s) > length {
		return nil, false
	}
	words := make([]uint64, length)
	for k := range len(s) {
		words[k] = uint64(s[k])
	}
	return words, true
}

// readValue reads the text of a null, min or max; usual is what it is without one.
func (r *resolver) readValue(i int, p api.Prim, s string, usual uint64) uint64 {
	if s == "" {
		return usual
	}
	word, err, _ := number.Parse(p, s)
	if err != api.OK {
		r.refuse(i, api.ErrTypeValue)
	}
	return word
}

// readComposite reads a composite's members.
func (r *resolver) readComposite(i int) {
	names := map[string]int{}
	for k := range r.inside(i) {
		r.nameOnce(names, k)
		r.read(k)
	}
}

// readRef sees whether a ref names what may be put in.
func (r *resolver) readRef(i int) {
	name := r.ds[i].Type
	if _, ok := PrimOf(name); ok {
		return
	}
	named, ok := r.byName[name]
	if !ok {
		r.refuse(i, api.ErrTypeNone)
	}
	if r.variable[named] > 0 {
		r.refuse(i, api.ErrTypeKind)
	}
}

// readCoded reads an enum or a set with what stands in it. What its null, least and greatest values are shows later: the type that it names may not have been read yet.
func (r *resolver) readCoded(i int) {
	p := r.readEncoding(i)
	n := api.TypeNode{Depth: 1, Kind: r.saying(i).kind, Name: r.ds[i].Name, Prim: p, Length: 1, Size: prim.Size(p)}
	names, values := map[string]int{}, map[uint64]int{}
	for k := range r.inside(i) {
		r.nameOnce(names, k)
		d := r.ds[k]
		value, err := r.saying(k).value(p, d.Value)
		if _, twice := values[value]; err != api.OK || twice {
			r.refuse(k, api.ErrTypeEnum)
		}
		values[value] = k
		n.Values = append(n.Values, api.Named{Name: d.Name, Value: value, Since: d.Since})
	}
	r.own[i] = n
}

// readEncoding is the primitive type that an enum or set has, by itself or by a simple type of one element.
func (r *resolver) readEncoding(i int) api.Prim {
	p, ok := PrimOf(r.ds[i].Type)
	if !ok {
		named, found := r.byName[r.ds[i].Type]
		if !found {
			r.refuse(i, api.ErrTypeNone)
		}
		d := r.ds[named]
		p, ok = PrimOf(d.Type)
		ok = ok && d.Kind == api.DeclType && d.Presence != api.Constant && lengthSaid(d) == 1
	}
	if !ok || !r.saying(i).encodes(p) {
		r.refuse(i, api.ErrTypeKind)
	}
	return p
}
