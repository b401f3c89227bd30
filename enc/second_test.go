package enc_test

import (
	"slices"

	"stencil/api"
	"stencil/ir"
	"stencil/prim"
)

// todo is something of a message that may still come (the fields of a block that lies at a place of the buffer), or must: a group, data, or so many entries of a group.
type todo struct {
	kind  api.CallKind
	place int // of the token
	at    int
	left  int
}

// second is an encoder of its own, over a copy of the buffer, written from the chapter's words: what is still to come of the message is a list, of which calls take away the front.
type second struct {
	f       api.Form
	fields  map[int][]int // of each message and group, by their places: what has a leaf
	rows    map[int][]int // groups and data
	leaves  map[int][]int // of each field
	begun   bool
	bytes   []byte
	end     int
	weight  int
	entries int
	todo    []todo
}

func newSecond(f api.Form) *second {
	m := &second{f: f, fields: map[int][]int{}, rows: map[int][]int{}, leaves: map[int][]int{}}
	for i := range f.Tokens {
		for k := range ir.Parts(f, i) {
			if f.Tokens[k].Op != api.BeginField {
				m.rows[i] = append(m.rows[i], k)
			} else if m.leaves[k] = slices.Collect(ir.Leaves(f, k)); len(m.leaves[k]) > 0 {
				m.fields[i] = append(m.fields[i], k)
			}
		}
	}
	return m
}

// run is all that a block at a place of the buffer wants.
func (m *second) run(place, at int) []todo {
	out := []todo{{kind: api.CallField, place: place, at: at}}
	for _, k := range m.rows[place] {
		kind := api.CallGroup
		if m.f.Tokens[k].Op == api.BeginData {
			kind = api.CallData
		}
		out = append(out, todo{kind: kind, place: k})
	}
	return out
}

func (m *second) done() bool {
	return m.begun && !slices.ContainsFunc(m.todo, func(x todo) bool { return x.kind != api.CallField })
}

func (m *second) room() int { return len(m.bytes) - m.end }

// wrap begins a message in bytes, which it keeps.
func (m *second) wrap(b []byte, at int) api.Errno {
	h, t := m.f.Head, m.f.Tokens[0]
	switch {
	case at < 0, at > len(b):
		return api.ErrBuffer
	case h.Size+t.Full > api.MaxMessage:
		return api.ErrLong
	case h.Size+t.Block > len(b)-at:
		return api.ErrShort
	}
	m.begun, m.bytes, m.end, m.weight, m.entries = true, b, at, h.Size+t.Full, 0
	m.lay(h.Size, []api.Spot{h.Block, h.Template, h.Schema, h.Version}, t.Block, t.ID, m.f.Schema, m.f.Version)
	m.todo = m.run(0, m.end)
	m.end += t.Block
	return ok
}

// lay writes numbers into so many bytes at the end, which are 0 beside them.
func (m *second) lay(size int, spots []api.Spot, numbers ...int) {
	copy(m.bytes[m.end:], make([]byte, size))
	for i, s := range spots {
		prim.Put(m.bytes, m.end+s.Offset, s.Prim, m.f.Order, uint64(numbers[i]))
	}
	m.end += size
}

// front is what a call is of, and what is still to come behind that.
func (m *second) front(c api.Call) (todo, []todo, bool) {
	list := m.todo
	if len(list) > 0 && list[0].kind == api.CallField {
		for _, k := range m.fields[list[0].place] {
			if c.Kind == api.CallField && c.Name == m.f.Tokens[k].Name {
				return todo{kind: api.CallField, place: k, at: list[0].at}, list, true
			}
		}
		list = list[1:]
	}
	if len(list) == 0 || c.Kind != list[0].kind || c.Kind == api.CallField || c.Kind != api.CallNext && c.Name != m.f.Tokens[list[0].place].Name {
		return todo{}, nil, false
	}
	return list[0], list[1:], true
}

// do carries a call out, or tells why not.
func (m *second) do(c api.Call) api.Errno {
	if !m.begun {
		return api.ErrWrap
	}
	is, rest, may := m.front(c)
	if !may {
		return api.ErrOrder
	}
	switch c.Kind {
	case api.CallField:
		return m.set(is, c.Words)
	case api.CallGroup:
		return m.group(is, rest, c.Count)
	case api.CallNext:
		return m.next(is, rest)
	}
	return m.data(is, rest, c.Text)
}

func (m *second) set(is todo, words []uint64) api.Errno {
	var spots []api.Spot
	for _, k := range m.leaves[is.place] {
		for i := range m.f.Tokens[k].Length {
			t := m.f.Tokens[k]
			spots = append(spots, spot(t.Prim, is.at+m.f.Tokens[is.place].Offset+t.Offset+i*prim.Size(t.Prim)))
		}
	}
	if len(words) != len(spots) {
		return api.ErrWords
	}
	for i, s := range spots {
		if !prim.Fits(s.Prim, words[i]) {
			return api.ErrFit
		}
	}
	for i, s := range spots {
		prim.Put(m.bytes, s.Offset, s.Prim, m.f.Order, words[i])
	}
	return ok
}

func (m *second) group(is todo, rest []todo, n int) api.Errno {
	t := m.f.Tokens[is.place]
	switch {
	case n < 0, uint64(n) > prim.Max(t.B.Prim):
		return api.ErrCount
	case m.entries+n > api.MaxEntries:
		return api.ErrEntries
	case m.weight+t.Size+n*t.Full > api.MaxMessage:
		return api.ErrLong
	case t.Size > m.room():
		return api.ErrShort
	}
	m.entries += n
	m.weight += t.Size + n*t.Full
	m.lay(t.Size, []api.Spot{t.A, t.B}, t.Block, n)
	m.todo = m.entriesAhead(is.place, n, rest)
	return ok
}

// entriesAhead is a list with so many entries of a group in front.
func (m *second) entriesAhead(place, n int, rest []todo) []todo {
	if n == 0 {
		return rest
	}
	return slices.Concat([]todo{{kind: api.CallNext, place: place, left: n}}, rest)
}

func (m *second) next(is todo, rest []todo) api.Errno {
	t := m.f.Tokens[is.place]
	if t.Block > m.room() {
		return api.ErrShort
	}
	m.todo = slices.Concat(m.run(is.place, m.end), m.entriesAhead(is.place, is.left-1, rest))
	m.end += t.Block
	return ok
}

func (m *second) data(is todo, rest []todo, s string) api.Errno {
	t := m.f.Tokens[is.place]
	switch {
	case uint64(len(s)) > prim.Max(t.A.Prim):
		return api.ErrData
	case m.weight+t.Size+len(s) > api.MaxMessage:
		return api.ErrLong
	case t.Size+len(s) > m.room():
		return api.ErrShort
	}
	m.weight += t.Size + len(s)
	m.lay(t.Size, []api.Spot{t.A}, len(s))
	m.end += copy(m.bytes[m.end:], s)
	m.todo = rest
	return ok
}
