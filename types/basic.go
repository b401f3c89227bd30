package types

import (
	"stencil/api"
	"stencil/prim"
)

var primNames = [...]string{
	api.Char:   "char",
	api.Int8:   "int8",
	api.Int16:  "int16",
	api.Int32:  "int32",
	api.Int64:  "int64",
	api.Uint8:  "uint8",
	api.Uint16: "uint16",
	api.Uint32: "uint32",
	api.Uint64: "uint64",
	api.Float:  "float",
	api.Double: "double",
}

func isPrim(p api.Prim) bool { return p >= 0 && int(p) < len(primNames) }

// mayEncodeEnum tells whether an enum's values can be of a primitive type.
func mayEncodeEnum(p api.Prim) bool { return isPrim(p) && p != api.Float && p != api.Double }

// mayEncodeSet tells whether a set's bits can be those of a primitive type.
func mayEncodeSet(p api.Prim) bool { return p >= api.Uint8 && p <= api.Uint64 }

// basic is the node of a primitive type.
func basic(p api.Prim) api.TypeNode {
	return api.TypeNode{
		Depth:  1,
		Kind:   api.TypeSimple,
		Name:   primNames[p],
		Prim:   p,
		Length: 1,
		Size:   prim.Size(p),
		Null:   prim.Null(p),
		Min:    prim.Min(p),
		Max:    prim.Max(p),
	}
}

// isVariable tells whether a node is variable data.
func isVariable(n api.TypeNode) bool { return n.Kind == api.TypeSimple && n.Length == 0 }

// takesRoom tells whether a member has a place of its own in its composite; variable data has one, though it takes no bytes there.
func takesRoom(n api.TypeNode) bool { return n.Size > 0 || isVariable(n) }
