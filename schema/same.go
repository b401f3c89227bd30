package schema

import (
	"slices"

	"stencil/api"
)

func sameNode(m, n api.TypeNode) bool {
	return m.Depth == n.Depth && m.Kind == n.Kind && m.Name == n.Name && m.Prim == n.Prim && m.Length == n.Length &&
		m.Presence == n.Presence && m.Offset == n.Offset && m.Size == n.Size && m.Null == n.Null && m.Min == n.Min && m.Max == n.Max &&
		slices.Equal(m.Const, n.Const) && slices.Equal(m.Values, n.Values)
}

func samePart(p, q api.Part) bool {
	return p.Depth == q.Depth && p.Kind == q.Kind && p.Name == q.Name && p.ID == q.ID && p.Type == q.Type &&
		p.Presence == q.Presence && p.Offset == q.Offset && p.Size == q.Size && p.Block == q.Block &&
		p.Since == q.Since && p.Deprecated == q.Deprecated && slices.Equal(p.Const, q.Const)
}
