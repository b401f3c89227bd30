package dec_test

import (
	"slices"

	"stencil/api"
	"stencil/ir"
	"stencil/prim"
	"stencil/project"
)

// todo is something of a message that may still come (the fields of a block that lies at a place of the buffer), or must: a group, data, or so many entries of a group with blocks of such a length.
type todo struct {
	kind   api.CallKind
	place  int // of the token in the whole form
	at     int
	left   int
	length int
}

// second is a decoder of its own, over bytes that it only reads, written from the chapter's words: what is still to come is a list, of which calls take away the front; one list for the reader and one for the bytes. Its lists are never changed in place, so that a copy of it is one.
type second struct {
	f       api.Form
	reader  int
	parts   map[int][]int       // of each message and group, by their places
	leaves  map[int][]int       // of each field
	living  map[int]map[int]int // by version and place: 1, where it lives
	begun   bool
	skipped bool
	bytes   []byte
	acting  int
	end     int
	weight  int
	entries int
	known   []todo
	there   []todo
}

func newSecond(f api.Form, reader int) *second {
	m := &second{f: f, reader: reader, parts: map[int][]int{}, leaves: map[int][]int{}, living: map[int]map[int]int{}}
	for i, t := range f.Tokens {
		m.parts[i] = slices.Collect(ir.Parts(f, i))
		if t.Op == api.BeginField {
			m.leaves[i] = slices.Collect(ir.Leaves(f, i))
		}
	}
	return m
}

func (m *second) lives(place, version int) bool {
	at := m.living[version]
	if at == nil {
		at = map[int]int{}
		for i := range m.f.Tokens {
			if project.Lives(m.f, i, version) {
				at[i] = 1
			}
		}
		m.living[version] = at
	}
	return at[place] == 1
}

// run is all that a block at a place of the buffer wants, of what lives at a version.
func (m *second) run(place, at, version int) []todo {
	out := []todo{{kind: api.CallField, place: place, at: at}}
	for _, k := range m.parts[place] {
		if op := m.f.Tokens[k].Op; m.lives(k, version) && op == api.BeginGroup {
			out = append(out, todo{kind: api.CallGroup, place: k})
		} else if m.lives(k, version) && op == api.BeginData {
			out = append(out, todo{kind: api.CallData, place: k})
		}
	}
	return out
}

// fields are the places of those of a block that the reader may call.
func (m *second) fields(place int) []int {
	var out []int
	for _, k := range m.parts[place] {
		if len(m.leaves[k]) > 0 && m.lives(k, m.reader) {
			out = append(out, k)
		}
	}
	return out
}

// reach is the greatest end of a block's fields that live in the bytes.
func (m *second) reach(place int) int {
	end := 0
	for _, k := range m.parts[place] {
		if t := m.f.Tokens[k]; t.Op == api.BeginField && m.lives(k, m.acting) {
			end = max(end, t.Offset+t.Size)
		}
	}
	return end
}

func (m *second) done() bool {
	return m.begun && (m.skipped || !slices.ContainsFunc(m.known, func(x todo) bool { return x.kind != api.CallField }))
}

func (m *second) room() int { return len(m.bytes) - m.end }

func (m *second) get(at int, s api.Spot) uint64 {
	w, err := prim.Get(m.bytes, at+s.Offset, s.Prim, m.f.Order)
	if err != ok {
		panic("a second decoder that reads outside of its bytes")
	}
	return w
}

// wrap begins a message in bytes, which it keeps.
func (m *second) wrap(b []byte, at int) api.Errno {
	h, t := m.f.Head, m.f.Tokens[0]
	if at < 0 || at > len(b) {
		return api.ErrBuffer
	}
	if h.Size > len(b)-at {
		return api.ErrShort
	}
	n := *m
	n.begun, n.skipped, n.bytes, n.end, n.entries = true, false, b, at+h.Size, 0
	if n.get(at, h.Schema) != uint64(m.f.Schema) {
		return api.ErrSchemaID
	}
	if n.get(at, h.Template) != uint64(t.ID) {
		return api.ErrTemplate
	}
	n.acting = int(n.get(at, h.Version))
	if _, err := project.At(m.f, n.acting); err != ok {
		return api.ErrActing
	}
	length := int(n.get(at, h.Block))
	if length < n.reach(0) {
		return api.ErrBlock
	}
	n.weight = h.Size + max(length, t.Full)
	if n.weight > api.MaxMessage {
		return api.ErrLong
	}
	if length > n.room() {
		return api.ErrShort
	}
	n.known, n.there = n.run(0, n.end, n.reader), n.run(0, n.end, n.acting)
	n.end += length
	*m = n
	return ok
}

// front is what a call is of, and what is still to come behind that.
func (m *second) front(c api.Call) (todo, []todo, bool) {
	list := m.known
	if len(list) > 0 && list[0].kind == api.CallField {
		for _, k := range m.fields(list[0].place) {
			if c.Kind == api.CallField && c.Name == m.f.Tokens[k].Name {
				return todo{kind: api.CallField, place: k, at: list[0].at}, list, true
			}
		}
		list = list[1:]
	}
	if len(list) == 0 || c.Kind != list[0].kind || c.Kind == api.CallField || c.Kind != api.CallNext && c.Name != m.f.Tokens[list[0].place].Name {
		return todo{}, nil, false
	}
	return list[0], list[1:], true
}

// do carries a call out, or tells why not.
func (m *second) do(c api.Call) (api.Told, api.Errno) {
	if !m.begun {
		return api.Told{}, api.ErrWrap
	}
	is, rest, may := m.front(c)
	if m.skipped || !may {
		return api.Told{}, api.ErrOrder
	}
	if c.Kind == api.CallField {
		return api.Told{Words: m.words(is)}, ok
	}
	n := *m
	n.known = rest
	if !n.lives(is.place, n.acting) {
		*m = n
		return api.Told{}, ok
	}
	at := n.end
	of, told, err := n.through()
	if err != ok {
		return api.Told{}, err
	}
	if of.place != is.place || of.kind != is.kind {
		panic("a second decoder whose lists go apart")
	}
	switch is.kind {
	case api.CallGroup:
		n.known = ahead(is.place, told.Count, of.length, rest)
	case api.CallNext:
		n.known = slices.Concat(n.run(is.place, at, n.reader), ahead(is.place, is.left-1, is.length, rest))
	}
	*m = n
	return told, ok
}

func (m *second) words(is todo) []uint64 {
	var out []uint64
	for _, k := range m.leaves[is.place] {
		t := m.f.Tokens[k]
		for i := range t.Length {
			switch {
			case m.lives(is.place, m.acting):
				out = append(out, m.get(is.at+m.f.Tokens[is.place].Offset, spot(t.Prim, t.Offset+i*prim.Size(t.Prim))))
			case m.f.Tokens[k-1].Op == api.BeginSet:
				out = append(out, 0)
			default:
				out = append(out, t.Null)
			}
		}
	}
	return out
}

// ahead is a list with so many entries of a group in front.
func ahead(place, n, length int, rest []todo) []todo {
	if n == 0 {
		return rest
	}
	return slices.Concat([]todo{{kind: api.CallNext, place: place, left: n, length: length}}, rest)
}

// through goes through the next thing that the bytes have, and tells of it; where it is refused, the decoder is of no use any more.
func (m *second) through() (todo, api.Told, api.Errno) {
	for m.there[0].kind == api.CallField {
		m.there = m.there[1:]
	}
	is, rest := m.there[0], m.there[1:]
	t := m.f.Tokens[is.place]
	switch is.kind {
	case api.CallGroup:
		return m.group(is, t, rest)
	case api.CallNext:
		if is.length > m.room() {
			return is, api.Told{}, api.ErrShort
		}
		m.there = slices.Concat(m.run(is.place, m.end, m.acting), ahead(is.place, is.left-1, is.length, rest))
		m.end += is.length
		return is, api.Told{}, ok
	}
	return m.data(is, t, rest)
}

func (m *second) group(is todo, t api.Token, rest []todo) (todo, api.Told, api.Errno) {
	if t.Size > m.room() {
		return is, api.Told{}, api.ErrShort
	}
	n := int(m.get(m.end, t.B))
	is.length = int(m.get(m.end, t.A))
	if uint64(n) > prim.Max(t.B.Prim) {
		return is, api.Told{}, api.ErrCount
	}
	if m.entries+n > api.MaxEntries {
		return is, api.Told{}, api.ErrEntries
	}
	if n > 0 && is.length < m.reach(is.place) {
		return is, api.Told{}, api.ErrBlock
	}
	m.weight += t.Size + n*max(is.length, t.Full)
	if m.weight > api.MaxMessage {
		return is, api.Told{}, api.ErrLong
	}
	m.entries += n
	m.end += t.Size
	m.there = ahead(is.place, n, is.length, rest)
	return is, api.Told{Count: n}, ok
}

func (m *second) data(is todo, t api.Token, rest []todo) (todo, api.Told, api.Errno) {
	if t.Size > m.room() {
		return is, api.Told{}, api.ErrShort
	}
	n := int(m.get(m.end, t.A))
	if uint64(n) > prim.Max(t.A.Prim) {
		return is, api.Told{}, api.ErrData
	}
	m.weight += t.Size + n
	if m.weight > api.MaxMessage {
		return is, api.Told{}, api.ErrLong
	}
	if n > m.room()-t.Size {
		return is, api.Told{}, api.ErrShort
	}
	text := string(m.bytes[m.end+t.Size : m.end+t.Size+n])
	m.end += t.Size + n
	m.there = rest
	return is, api.Told{Text: text}, ok
}

// skip goes through all that the bytes still have.
func (m *second) skip() (int, api.Errno) {
	if !m.begun {
		return 0, api.ErrWrap
	}
	n := *m
	for slices.ContainsFunc(n.there, func(x todo) bool { return x.kind != api.CallField }) {
		if _, _, err := n.through(); err != ok {
			return 0, err
		}
	}
	n.skipped, n.known, n.there = true, nil, nil
	*m = n
	return m.end, ok
}
