package types

import "stencil/api"

// measure is how many nodes a declaration says, and how many composites stand in one another in them. Nodes aren't counted further than one beyond their limit, since refs in refs can say more of them than any number holds.
type measure struct {
	nodes int
	nest  int
}

// refuseBig refuses the first type with which there are too many nodes, or that is too deep.
func (r *resolver) refuseBig() {
	nodes := len(primNames)
	for _, i := range r.types {
		m := r.measure(i)
		nodes += m.nodes
		if nodes > api.MaxNodes || m.nest > api.MaxDepth {
			r.refuse(i, api.ErrTypeBig)
		}
	}
}

func (r *resolver) measure(i int) measure { return r.saying(i).measure(r, i) }

func (r *resolver) measureOne(int) measure { return measure{nodes: 1} }

func (r *resolver) measureRef(i int) measure {
	named, ok := r.byName[r.ds[i].Type]
	if !ok {
		return r.measureOne(i)
	}
	return r.measure(named)
}

// measureComposite measures each composite once, however many refs name it.
func (r *resolver) measureComposite(i int) measure {
	if m, done := r.measured[i]; done {
		return m
	}
	m := measure{nodes: 1}
	for k := range r.inside(i) {
		member := r.measure(k)
		m.nodes = min(m.nodes+member.nodes, api.MaxNodes+1)
		m.nest = max(m.nest, member.nest)
	}
	m.nest++
	r.measured[i] = m
	return m
}
