package types

import (
	"slices"
	"strings"

	"stencil/api"
	"stencil/lay"
)

// tell is the types that all declarations say.
func (r *resolver) tell() []api.TypeNode {
	ts := Basic()
	for _, i := range r.types {
		for _, n := range r.nodesOfType(i) {
			ts = append(ts, renewed(n))
		}
	}
	return ts
}

// renewed is a node that shares no memory: what several refs name is told several times.
func renewed(n api.TypeNode) api.TypeNode {
	n.Name = strings.Clone(n.Name)
	n.Const = slices.Clone(n.Const)
	n.Values = slices.Clone(n.Values)
	for i := range n.Values {
		n.Values[i].Name = strings.Clone(n.Values[i].Name)
	}
	return n
}

// nodesOfType makes a type declaration's nodes once, however many refs name it.
func (r *resolver) nodesOfType(i int) []api.TypeNode {
	ns, done := r.made[i]
	if !done {
		ns = r.nodes(i)
		r.made[i] = ns
	}
	return ns
}

func (r *resolver) nodes(i int) []api.TypeNode { return r.saying(i).nodes(r, i) }

func (r *resolver) nodeOfSimple(i int) []api.TypeNode { return []api.TypeNode{r.own[i]} }

// nodeOfEnum has the null, least and greatest value of the type that is named.
func (r *resolver) nodeOfEnum(i int) []api.TypeNode {
	n := r.own[i]
	coding := r.named(i)[0]
	n.Null, n.Min, n.Max = coding.Null, coding.Min, coding.Max
	return []api.TypeNode{n}
}

// nodeOfSet is like an enum's; a set without bits is its null.
func (r *resolver) nodeOfSet(i int) []api.TypeNode {
	ns := r.nodeOfEnum(i)
	ns[0].Null = 0
	return ns
}

// nodesOfRef is those of what is named, by the ref's name.
func (r *resolver) nodesOfRef(i int) []api.TypeNode {
	ns := slices.Clone(r.named(i))
	ns[0].Name = r.ds[i].Name
	return ns
}

// named is the nodes of the type that a declaration names.
func (r *resolver) named(i int) []api.TypeNode {
	name := r.ds[i].Type
	if p, ok := PrimOf(name); ok {
		return []api.TypeNode{basic(p)}
	}
	return r.nodesOfType(r.byName[name])
}

// nodesOfComposite is the composite, and behind it its members' nodes one deeper, laid.
func (r *resolver) nodesOfComposite(i int) []api.TypeNode {
	ns := []api.TypeNode{{Depth: 1, Kind: api.TypeComposite, Name: r.ds[i].Name}}
	var rooms []api.Room
	var places, whose []int
	for k := range r.inside(i) {
		members := r.nodes(k)
		if takesRoom(members[0]) {
			rooms = append(rooms, api.Room{Size: members[0].Size, Offset: r.ds[k].Offset})
			places, whose = append(places, len(ns)), append(whose, k)
		}
		for _, n := range members {
			n.Depth++
			ns = append(ns, n)
		}
	}
	offsets, size, err, n := lay.Place(rooms, -1)
	if err != api.OK {
		r.refuse(whose[n], api.ErrTypeOffset)
	}
	for k, place := range places {
		ns[place].Offset = offsets[k]
	}
	ns[0].Size = size
	return ns
}
