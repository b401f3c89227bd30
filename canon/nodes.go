package canon

import (
	"strings"

	"stencil/api"
	"stencil/number"
	"stencil/prim"
	"stencil/text"
	"stencil/types"
)

// nodeSaying is how a node of a Kind is said.
type nodeSaying struct {
	kind  api.DeclKind
	fill  func(w *writer, i int, d *api.Decl) // what the Kind says beside what all do
	value api.DeclKind                        // of what says one of its Values
}

func nodeSayings() [api.TypeComposite + 1]nodeSaying {
	return [...]nodeSaying{
		api.TypeSimple:    {kind: api.DeclType, fill: (*writer).fillSimple},
		api.TypeEnum:      {kind: api.DeclEnum, fill: (*writer).fillCoded, value: api.DeclValid},
		api.TypeSet:       {kind: api.DeclSet, fill: (*writer).fillCoded, value: api.DeclChoice},
		api.TypeComposite: {kind: api.DeclComposite, fill: (*writer).fillComposite},
	}
}

func (w *writer) fillSimple(i int, d *api.Decl) {
	n := w.Types[i]
	d.Type = types.NameOf(n.Prim)
	meant := 1 // the Length, where none is said
	if n.Presence == api.Constant {
		d.Value = constantText(n)
		demand(canBeSaid(d.Value))
		if n.Prim == api.Char {
			meant = len(d.Value)
		}
	}
	if n.Length != meant {
		d.Length = n.Length
	}
	d.HasPresence, d.Presence = n.Presence != api.Required, n.Presence
	d.Null = unusual(n.Prim, n.Null, prim.Null)
	d.Min = unusual(n.Prim, n.Min, prim.Min)
	d.Max = unusual(n.Prim, n.Max, prim.Max)
}

// constantText is the text that says a constant's elements. Of Char the zeros at its end are what is missing to its Length.
func constantText(n api.TypeNode) string {
	if n.Prim != api.Char {
		s, _ := number.Join(n.Prim, n.Const)
		return s
	}
	bytes := make([]byte, len(n.Const))
	for k, word := range n.Const {
		bytes[k] = byte(word)
	}
	return strings.TrimRight(string(bytes), "\x00")
}

// canBeSaid tells whether a text inside an element is read as it stands.
func canBeSaid(s string) bool {
	err, _ := text.Chars(s)
	return s != "" && text.Trim(s) == s && err == api.OK
}

// unusual is the text of a null, least or greatest value; "" of the primitive type's own.
func unusual(p api.Prim, word uint64, usual func(api.Prim) uint64) string {
	if word == usual(p) {
		return ""
	}
	return printed(p, word)
}

// printed is the text of a word of the type, which number.Print never refuses.
func printed(p api.Prim, word uint64) string {
	s, _ := number.Print(p, word)
	return s
}

// fillCoded is what enums and sets have in common.
func (w *writer) fillCoded(i int, d *api.Decl) {
	n := w.Types[i]
	place, known := w.coders[codingOf(n.Kind, n)]
	demand(known)
	d.Type = w.typeName(place)
}

// valuesSaid is what says an enum's values or a set's bits; a bit is a number of the set's type, which is unsigned.
func (s nodeSaying) valuesSaid(n api.TypeNode, depth int) []api.Decl {
	var ds []api.Decl
	for _, v := range n.Values {
		d := bare(s.value, depth, v.Name)
		d.Value, d.Since = printed(n.Prim, v.Value), v.Since
		ds = append(ds, d)
	}
	return ds
}

// fillComposite adds nothing to the composite itself; where its members lie is known from here on, and they come behind it.
func (w *writer) fillComposite(i int, _ *api.Decl) {
	var b block
	n := w.Types[i]
	for k := i + 1; k < len(w.Types) && w.Types[k].Depth > n.Depth; k++ {
		if m := w.Types[k]; m.Depth == n.Depth+1 && takesRoom(m) {
			b.add(k, m.Size, m.Offset)
		}
	}
	b.plain(n.Size, w.members)
}

// takesRoom tells whether a member has a place of its own in its composite; variable data has one, though it takes no bytes there.
func takesRoom(n api.TypeNode) bool {
	return n.Size > 0 || n.Kind == api.TypeSimple && n.Length == 0
}
