package look

import (
	"stencil/api"
	"stencil/ir"
	"stencil/prim"
)

// elements are those of a field's leaves, each where it stands in the buffer, whose block begins at base.
func elements(f api.Form, field, base int) []api.Spot {
	var all []api.Spot
	for i := range ir.Leaves(f, field) {
		leaf := f.Tokens[i]
		at := base + f.Tokens[field].Offset + leaf.Offset
		for range leaf.Length {
			all = append(all, api.Spot{Prim: leaf.Prim, Offset: at})
			at += prim.Size(leaf.Prim)
		}
	}
	return all
}

// put writes a word into each element, or gives up ahead of the first. All of them must lie in the buffer.
func put(o api.Endian, b []byte, elements []api.Spot, words []uint64) {
	if len(words) != len(elements) {
		panic(api.ErrWords)
	}
	for i, e := range elements {
		if !prim.Fits(e.Prim, words[i]) {
			panic(api.ErrFit)
		}
	}
	for i, e := range elements {
		prim.Put(b, e.Offset, e.Prim, o, words[i])
	}
}
