package xmltree

import "stencil/api"

// printer turns a tree into pieces; open are the names of the elements whose end tag is still to come.
type printer struct {
	out  []api.XTok
	open []string
}

func pieces(es []api.Elem) []api.XTok {
	var p printer
	for n, e := range es {
		p.shutTo(e.Depth - 1)
		holds := n+1 < len(es) && es[n+1].Depth > e.Depth
		p.put(e, holds)
	}
	p.shutTo(0)
	return p.out
}

// shutTo closes elements, the innermost one first, till so many are open.
func (p *printer) shutTo(depth int) {
	for len(p.open) > depth {
		last := len(p.open) - 1
		p.tell(api.XTok{Kind: api.XClose, Name: p.open[last]})
		p.open = p.open[:last]
	}
}

// put writes an element up to where its kids begin; holds tells whether it has any.
func (p *printer) put(e api.Elem, holds bool) {
	p.tell(api.XTok{Kind: api.XOpen, Name: e.Name})
	for _, a := range e.Attrs {
		p.tell(api.XTok{Kind: api.XAttr, Name: a.Name, Value: a.Value})
	}
	if !holds && e.Text == "" {
		p.tell(api.XTok{Kind: api.XEmpty})
		return
	}
	p.tell(api.XTok{Kind: api.XEnd})
	if e.Text != "" {
		p.tell(api.XTok{Kind: api.XText, Value: e.Text})
	}
	p.open = append(p.open, e.Name)
}

func (p *printer) tell(t api.XTok) { p.out = append(p.out, t) }
