package evolve

import (
	"slices"
	"strings"

	"stencil/api"
)

// schemaAt is a valid schema as it was at one of its versions; its texts and lists are copies.
func schemaAt(s api.Schema, version int) api.Schema {
	s.Package = strings.Clone(s.Package)
	s.Version = version
	s.Types = typesAt(s.Types, version)
	s.Parts = partsAt(s.Parts, version)
	return s
}

func typesAt(ts []api.TypeNode, version int) []api.TypeNode {
	out := make([]api.TypeNode, 0, len(ts))
	for _, n := range ts {
		n.Name = strings.Clone(n.Name)
		n.Const = slices.Clone(n.Const)
		n.Values = valuesAt(n.Values, version)
		out = append(out, n)
	}
	return out
}

func valuesAt(values []api.Named, version int) []api.Named {
	var out []api.Named
	for _, v := range values {
		if v.Since <= version {
			v.Name = strings.Clone(v.Name)
			out = append(out, v)
		}
	}
	return out
}

func partsAt(parts []api.Part, version int) []api.Part {
	var out []api.Part
	for i, p := range parts {
		if cameAt(p) > version {
			continue
		}
		p.Name = strings.Clone(p.Name)
		p.Const = slices.Clone(p.Const)
		p.Block = blockAt(p, parts[i+1:], version)
		out = append(out, p)
	}
	return out
}

// blockAt is the block length of a part at a version; of what has no block it is 0, as ever. The fields right inside a message or group stand right behind it, ahead of its groups and data.
func blockAt(p api.Part, behind []api.Part, version int) int {
	for _, f := range behind {
		if f.Kind != api.PartField || f.Depth <= p.Depth {
			break
		}
		if f.Size > 0 && cameAt(f) > version {
			return f.Offset
		}
	}
	return p.Block
}
