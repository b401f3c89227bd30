package types

import (
	"stencil/api"
	"stencil/number"
	"stencil/prim"
)

// saying is what a declaration of a Kind says.
type saying struct {
	read    func(r *resolver, i int)                // what it says by itself, or its fault
	measure func(r *resolver, i int) measure        // how much it will say in all
	nodes   func(r *resolver, i int) []api.TypeNode // all that it says, once every declaration has been read: a new list, the first with the Depth 1

	// Of an enum or set: its node's Kind, and the primitive types that it can have.
	kind    api.TypeKind
	encodes func(p api.Prim) bool

	// Of what stands in an enum or set: what its text says.
	value func(p api.Prim, s string) (uint64, api.Errno)
}

func sayingsByKind() [api.DeclChoice + 1]saying {
	return [...]saying{
		api.DeclType:      {read: (*resolver).readType, measure: (*resolver).measureOne, nodes: (*resolver).nodeOfSimple},
		api.DeclComposite: {read: (*resolver).readComposite, measure: (*resolver).measureComposite, nodes: (*resolver).nodesOfComposite},
		api.DeclRef:       {read: (*resolver).readRef, measure: (*resolver).measureRef, nodes: (*resolver).nodesOfRef},
		api.DeclEnum:      {read: (*resolver).readCoded, measure: (*resolver).measureOne, nodes: (*resolver).nodeOfEnum, kind: api.TypeEnum, encodes: mayEncodeEnum},
		api.DeclSet:       {read: (*resolver).readCoded, measure: (*resolver).measureOne, nodes: (*resolver).nodeOfSet, kind: api.TypeSet, encodes: mayEncodeSet},
		api.DeclValid:     {value: valueSaid},
		api.DeclChoice:    {value: bitSaid},
	}
}

// valueSaid is the value that a validValue's text says.
func valueSaid(p api.Prim, s string) (uint64, api.Errno) {
	word, err, _ := number.Parse(p, s)
	return word, err
}

// bitSaid is the bit that a choice's text says.
func bitSaid(p api.Prim, s string) (uint64, api.Errno) {
	bit, err, _ := number.Int(s, 8*prim.Size(p)-1)
	return uint64(bit), err
}
