package types

import (
	"slices"

	"stencil/api"
)

// isPlace tells whether a list is types, and has a node at a place.
func isPlace(ts []api.TypeNode, i int) bool {
	if i < 0 || i >= len(ts) {
		return false
	}
	err, _ := Check(ts)
	return err == api.OK
}

// held is what the node at a place holds.
func held(ts []api.TypeNode, i int) []api.TypeNode {
	end := i + 1
	for end < len(ts) && ts[end].Depth > ts[i].Depth {
		end++
	}
	return ts[i+1 : end]
}

// leaves is the places of the leaves of the type at a place; none of what is no type.
func leaves(ts []api.TypeNode, i int) []int {
	if !isPlace(ts, i) {
		return nil
	}
	var places []int
	for k := range len(held(ts, i)) + 1 {
		if isLeaf(ts[i+k]) {
			places = append(places, i+k)
		}
	}
	return places
}

func isLeaf(n api.TypeNode) bool {
	switch n.Kind {
	case api.TypeEnum, api.TypeSet:
		return true
	case api.TypeSimple:
		return n.Presence != api.Constant && n.Length > 0
	}
	return false
}

// membersOf is what the composite at a place holds, to be read only; none of what is no composite.
func membersOf(ts []api.TypeNode, i int) []api.TypeNode {
	if !isPlace(ts, i) || ts[i].Kind != api.TypeComposite {
		return nil
	}
	return held(ts, i)
}

// spotsOf is where the numbers of a composite stand that has just these members, in the order of the names; nil, if it hasn't.
func spotsOf(ts []api.TypeNode, i int, names ...string) []api.Spot {
	members := membersOf(ts, i)
	if len(members) != len(names) {
		return nil
	}
	spots := make([]api.Spot, len(names))
	for _, n := range members {
		k := slices.Index(names, n.Name)
		if k < 0 || !isNumber(n) {
			return nil
		}
		spots[k] = spotOf(n)
	}
	return spots
}

func spotOf(n api.TypeNode) api.Spot { return api.Spot{Prim: n.Prim, Offset: n.Offset} }

// isNumber tells whether a member is one in which a number of a header, a dimension or a length may stand.
func isNumber(n api.TypeNode) bool {
	small := n.Prim == api.Uint8 || n.Prim == api.Uint16 || n.Prim == api.Uint32
	return n.Kind == api.TypeSimple && small && n.Length == 1 && n.Presence == api.Required
}

func isLength(n api.TypeNode) bool { return n.Name == "length" && isNumber(n) && n.Offset == 0 }

// isVarData tells whether a member is data's bytes behind a length of that size.
func isVarData(n api.TypeNode, behind int) bool {
	bytes := n.Prim == api.Char || n.Prim == api.Uint8
	return n.Name == "varData" && isVariable(n) && bytes && n.Offset == behind
}
