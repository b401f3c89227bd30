package order

import "stencil/api"

// takers are what a call of each Kind does, or by which error it is refused.
func takers() [4]func(*Machine, api.Call) api.Errno {
	return [...]func(*Machine, api.Call) api.Errno{
		api.CallField: (*Machine).field,
		api.CallGroup: (*Machine).group,
		api.CallNext:  (*Machine).next,
		api.CallData:  (*Machine).data,
	}
}

// field may come again and again, until the row begins.
func (m *Machine) field(c api.Call) api.Errno {
	top := m.top()
	if _, ok := top.part.fields[c.Name]; !ok || !top.begun || top.come > 0 {
		return api.ErrOrder
	}
	return api.OK
}

func (m *Machine) group(c api.Call) api.Errno {
	g, err := m.member(c)
	switch {
	case err != api.OK:
		return err
	case c.Count < 0 || uint64(c.Count) > g.most:
		return api.ErrCount
	case c.Count > api.MaxEntries-m.entries:
		return api.ErrEntries
	}
	m.entries += c.Count
	// Of a group without entries nothing more comes.
	if c.Count > 0 {
		m.push(level{part: g, left: c.Count})
	}
	return api.OK
}

func (m *Machine) next(api.Call) api.Errno {
	top := m.top()
	if top.left == 0 || top.begun && !top.isWhole() {
		return api.ErrOrder
	}
	*top = level{part: top.part, left: top.left - 1, begun: true}
	return api.OK
}

func (m *Machine) data(c api.Call) api.Errno {
	_, err := m.member(c)
	return err
}

// member is the one of the row that must come next, if the call is its own: it has come then.
func (m *Machine) member(c api.Call) (*part, api.Errno) {
	top := m.top()
	if !top.begun || top.isWhole() {
		return nil, api.ErrOrder
	}
	p := top.part.row[top.come]
	if p.kind != c.Kind || p.name != c.Name {
		return nil, api.ErrOrder
	}
	top.come++
	return p, api.OK
}
