package ir

import (
	"stencil/api"
	"stencil/prim"
	"stencil/schema"
	"stencil/types"
)

// compiler makes the tokens of messages out of a schema that schema.Valid takes.
type compiler struct {
	list
	from  api.Schema
	head  api.Head
	kinds []func(place int) int     // by PartKind: puts the tokens of the part there, and answers the place behind what it holds
	types []func(place, at int) int // by TypeKind: likewise of a node whose bytes begin at a place of the field's
}

// compiled hands a schema's compiler to what is to be done with it. Both leave by a panic with an error, which is answered.
func compiled(s api.Schema, do func(c *compiler)) (err api.Errno) {
	defer func() {
		if caught := recover(); caught != nil {
			err = caught.(api.Errno)
		}
	}()
	do(newCompiler(s))
	return api.OK
}

func newCompiler(s api.Schema) *compiler {
	if err, _ := schema.Valid(s); err != api.OK {
		panic(err)
	}
	c := &compiler{from: s}
	c.head, _ = types.HeadOf(s.Types, s.Header)
	c.kinds = []func(int) int{api.PartMessage: c.message, api.PartField: c.field, api.PartGroup: c.group, api.PartData: c.data}
	c.types = []func(int, int) int{api.TypeSimple: c.simple, api.TypeEnum: c.enum, api.TypeSet: c.set, api.TypeComposite: c.composite}
	return c
}

func (c *compiler) wantMessage(place int) {
	if place < 0 || place >= len(c.from.Parts) || c.from.Parts[place].Kind != api.PartMessage {
		panic(api.ErrPart)
	}
}

func (c *compiler) forms() []api.Form {
	var out []api.Form
	for i, p := range c.from.Parts {
		if p.Kind == api.PartMessage {
			out = append(out, c.form(i))
		}
	}
	return out
}

// form begins a list of its own, so that no two forms share one.
func (c *compiler) form(place int) api.Form {
	c.list = list{}
	c.part(place)
	return api.Form{Order: c.from.Order, Schema: c.from.ID, Version: c.from.Version, Head: c.head, Tokens: c.tokens}
}

func (c *compiler) part(i int) int { return c.kinds[c.from.Parts[i].Kind](i) }

func (c *compiler) node(i, at int) int { return c.types[c.from.Types[i].Kind](i, at) }

func (c *compiler) message(i int) int {
	p := c.from.Parts[i]
	c.begin(api.Token{Op: api.BeginMessage, Name: p.Name, ID: p.ID, Since: p.Since, Block: p.Block, Full: p.Block})
	return c.inside(i)
}

func (c *compiler) group(i int) int {
	p := c.from.Parts[i]
	alone, place := c.alone(p.Type)
	block, count, _ := types.DimOf(alone, place)
	c.begin(api.Token{Op: api.BeginGroup, Name: p.Name, ID: p.ID, Since: p.Since, Size: alone[place].Size, Block: p.Block, Full: p.Block, A: block, B: count})
	return c.inside(i)
}

// inside puts what stands inside the message or group that was begun, and ends it.
func (c *compiler) inside(i int) int {
	stop := behind(c.from.Parts, i, depthOfPart)
	for k := i + 1; k < stop; {
		k = c.part(k)
	}
	c.end()
	return stop
}

func (c *compiler) field(i int) int {
	p := c.from.Parts[i]
	c.begin(api.Token{Op: api.BeginField, Name: p.Name, ID: p.ID, Offset: p.Offset, Size: p.Size, Since: p.Since, Presence: p.Presence, Const: p.Const})
	c.node(p.Type, 0)
	c.end()
	return i + 1
}

func (c *compiler) data(i int) int {
	p := c.from.Parts[i]
	length, bytes, _ := types.DataOf(c.alone(p.Type))
	c.begin(api.Token{Op: api.BeginData, Name: p.Name, ID: p.ID, Since: p.Since, Size: prim.Size(length.Prim), A: length, Prim: bytes})
	c.end()
	return i + 1
}

// alone is a list of types with no other than that at a place, and its place there: package types goes through the whole list that it is given at every call.
func (c *compiler) alone(i int) ([]api.TypeNode, int) {
	basic := types.Basic()
	return append(basic, c.from.Types[i:behind(c.from.Types, i, depthOfNode)]...), len(basic)
}

func (c *compiler) simple(i, at int) int {
	c.put(encoding(c.from.Types[i], at))
	return i + 1
}

func (c *compiler) enum(i, at int) int { return c.coded(api.BeginEnum, i, at) }

func (c *compiler) set(i, at int) int { return c.coded(api.BeginSet, i, at) }

func (c *compiler) coded(op api.TokenOp, i, at int) int {
	n := c.from.Types[i]
	c.begin(api.Token{Op: op, Name: n.Name, Offset: at, Size: n.Size, Presence: n.Presence})
	t := encoding(n, at)
	t.Name = types.NameOf(n.Prim)
	c.put(t)
	for _, v := range n.Values {
		c.put(api.Token{Op: api.Choice, Name: v.Name, Value: v.Value, Since: v.Since})
	}
	c.end()
	return i + 1
}

func (c *compiler) composite(i, at int) int {
	n := c.from.Types[i]
	c.begin(api.Token{Op: api.BeginComposite, Name: n.Name, Offset: at, Size: n.Size})
	stop := behind(c.from.Types, i, depthOfNode)
	for k := i + 1; k < stop; {
		k = c.node(k, at+c.from.Types[k].Offset)
	}
	c.end()
	return stop
}

func encoding(n api.TypeNode, at int) api.Token {
	return api.Token{Op: api.Encoding, Name: n.Name, Offset: at, Size: n.Size, Prim: n.Prim, Length: n.Length, Presence: n.Presence, Null: n.Null, Min: n.Min, Max: n.Max, Const: n.Const}
}

// behind is the place behind all that the one at a place of a flat list holds.
func behind[T any](flat []T, i int, depth func(x *T) int) int {
	own := depth(&flat[i])
	i++
	for i < len(flat) && depth(&flat[i]) > own {
		i++
	}
	return i
}

func depthOfPart(p *api.Part) int { return p.Depth }

func depthOfNode(n *api.TypeNode) int { return n.Depth }
