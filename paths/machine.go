package paths

import (
	"stencil/api"
	"stencil/order"
)

// stand is a block, and how many members of its row have come.
type stand struct {
	in   *part
	come int
}

// out is where what holds the block stands, once the block is left.
func (s stand) out() stand { return stand{in: s.in.holder, come: s.in.number + 1} }

// machine is one of order's that knows how far a row has come too: order's tells the block alone, and to try the whole row at each step would take too long.
type machine struct {
	*order.Machine
	stand
	parts   map[int]*part // by the places of their tokens
	entries int           // of all groups that were called
}

// begin is a machine behind which no call has come.
func begin(f api.Form) (*machine, api.Errno) {
	m, err := order.New(f)
	if err != api.OK {
		return nil, err
	}
	parts := map[int]*part{}
	return &machine{Machine: m, stand: stand{in: gather(parts, f.Tokens, 0)}, parts: parts}, api.OK
}

// behind is a machine that has taken calls.
func behind(f api.Form, cs []api.Call) (*machine, api.Errno) {
	m, err := begin(f)
	if err != api.OK {
		return nil, err
	}
	if !m.takesAll(cs) {
		return nil, api.ErrWord
	}
	return m, api.OK
}

func (m *machine) takesAll(cs []api.Call) bool {
	for _, c := range cs {
		if m.take(c) != api.OK {
			return false
		}
	}
	return true
}

// take is a Step, with which the stand goes along.
func (m *machine) take(c api.Call) api.Errno {
	if err := m.Step(c); err != api.OK {
		return err
	}
	switch c.Kind {
	case api.CallNext:
		m.stand = stand{in: m.parts[m.Inside()]}
	case api.CallGroup:
		m.entries += c.Count
		fallthrough
	case api.CallData:
		for m.in.place != m.Inside() {
			m.stand = m.out()
		}
		m.come++
	}
	return api.OK
}

// copied is a machine of its own that stands as this one.
func (m *machine) copied() *machine {
	n := *m
	n.Machine = m.Copy()
	return &n
}

// The kinds of calls, in the order in which they are told.
const (
	askFields = iota // of the block
	askEntry         // the next one of a group
	askMember        // the next one of a row: a group or data
)

// asks are what tells of each kind those calls that may come now.
func asks() [3]func(*machine) []api.Call {
	return [...]func(*machine) []api.Call{
		askFields: (*machine).fields,
		askEntry:  (*machine).entry,
		askMember: (*machine).member,
	}
}

// next are all calls that may come now.
func (m *machine) next() []api.Call {
	var calls []api.Call
	for _, ask := range asks() {
		calls = append(calls, ask(m)...)
	}
	return calls
}

// onward is the one call that may come now and is no field's, if there is one.
func (m *machine) onward() (api.Call, bool) {
	kinds := asks()
	for _, ask := range kinds[askEntry:] {
		if calls := ask(m); len(calls) > 0 {
			return calls[0], true
		}
	}
	return api.Call{}, false
}

// fields are the block's own list: whoever hands it out copies it.
func (m *machine) fields() []api.Call { return m.allowed(m.in.fields) }

func (m *machine) entry() []api.Call { return m.allowed([]api.Call{{Kind: api.CallNext}}) }

// member is that of the innermost row which isn't at its end: those inside it want nothing but entries.
func (m *machine) member() []api.Call {
	at := m.stand
	for at.come == len(at.in.row) {
		if at.in.holder == nil {
			return nil
		}
		at = at.out()
	}
	return m.allowed([]api.Call{at.in.row[at.come].call})
}

// allowed are calls, if the first one may come now. Fields of one block may come all, or none.
func (m *machine) allowed(calls []api.Call) []api.Call {
	if len(calls) == 0 || !m.may(calls[0]) {
		return nil
	}
	return calls
}

func (m *machine) may(c api.Call) bool { return m.Copy().Step(c) == api.OK }
