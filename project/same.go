package project

import (
	"slices"

	"stencil/api"
)

func same(f, g api.Form) bool {
	return f.Order == g.Order && f.Schema == g.Schema && f.Version == g.Version && f.Head == g.Head && slices.EqualFunc(f.Tokens, g.Tokens, sameToken)
}

func sameToken(t, u api.Token) bool {
	return t.Op == u.Op && t.Name == u.Name && t.ID == u.ID && t.Since == u.Since && t.Pair == u.Pair && samePlace(t, u) && sameValues(t, u)
}

// samePlace is of where a token's bytes, blocks and numbers lie.
func samePlace(t, u api.Token) bool {
	return t.Offset == u.Offset && t.Size == u.Size && t.Block == u.Block && t.Full == u.Full && t.A == u.A && t.B == u.B
}

// sameValues is of what a token's values are.
func sameValues(t, u api.Token) bool {
	return t.Prim == u.Prim && t.Length == u.Length && t.Presence == u.Presence && t.Null == u.Null && t.Min == u.Min && t.Max == u.Max && t.Value == u.Value && slices.Equal(t.Const, u.Const)
}
