package canon

import "stencil/api"

// coding is what an enum or set has of the type that codes it.
type coding struct {
	kind              api.TypeKind
	prim              api.Prim
	null, least, most uint64
}

// codingOf is what an enum or set has of a type; a set's null is 0, whatever the type's is.
func codingOf(kind api.TypeKind, n api.TypeNode) coding {
	c := coding{kind: kind, prim: n.Prim, least: n.Min, most: n.Max}
	if kind == api.TypeEnum {
		c.null = n.Null
	}
	return c
}

// codersOf is the places of the first types by which something can be coded.
func codersOf(ts []api.TypeNode) map[coding]int {
	places := map[coding]int{}
	for i, n := range ts {
		if !mayCode(n) {
			continue
		}
		for _, kind := range []api.TypeKind{api.TypeEnum, api.TypeSet} {
			c := codingOf(kind, n)
			if _, known := places[c]; !known {
				places[c] = i
			}
		}
	}
	return places
}

func mayCode(n api.TypeNode) bool {
	return n.Depth == 1 && n.Kind == api.TypeSimple && n.Length == 1 && n.Presence != api.Constant
}
