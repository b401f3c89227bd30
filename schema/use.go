package schema

import (
	"slices"

	"stencil/api"
	"stencil/types"
)

// use is what a composite may be used for.
type use struct {
	varies bool     // it has variable data
	isDim  bool     // it is a dimension
	block  api.Spot // of a dimension: the block length
	isData bool
}

// useOf asks a composite, handed with all that it holds, by itself: package types goes through the whole list that it is given at every call.
func useOf(nodes []api.TypeNode) use {
	alone := types.Basic()
	place := len(alone)
	alone = append(alone, nodes...)
	block, _, isDim := types.DimOf(alone, place)
	_, _, isData := types.DataOf(alone, place)
	return use{varies: slices.ContainsFunc(nodes, isVarData), isDim: isDim, block: block, isData: isData}
}

func isVarData(n api.TypeNode) bool { return n.Kind == api.TypeSimple && n.Length == 0 }

func isConstant(n api.TypeNode) bool {
	return n.Kind == api.TypeSimple && n.Presence == api.Constant
}

// whole is a type with all that it holds, to be read only.
func whole(ts []api.TypeNode, place int) []api.TypeNode {
	end := place + 1
	for end < len(ts) && ts[end].Depth > 1 {
		end++
	}
	return ts[place:end]
}
