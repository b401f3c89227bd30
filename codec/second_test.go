package codec_test

import (
	"slices"

	"stencil/api"
	"stencil/ir"
)

// plan is what the second codec asks of a whole form, looked for once.
type plan struct {
	f      api.Form
	parts  map[int][]int // of each message and group, by their places
	leaves map[int][]int // of each field
	since  map[int]int   // of each part: the first version at which it lives
}

func planOf(f api.Form) *plan {
	p := &plan{f: f, parts: map[int][]int{}, leaves: map[int][]int{}, since: map[int]int{0: f.Tokens[0].Since}}
	for i, t := range f.Tokens {
		switch t.Op {
		case api.BeginMessage, api.BeginGroup:
			p.parts[i] = slices.Collect(ir.Parts(f, i))
			for _, k := range p.parts[i] {
				p.since[k] = max(p.since[i], f.Tokens[k].Since)
			}
		case api.BeginField:
			p.leaves[i] = slices.Collect(ir.Leaves(f, i))
		}
	}
	return p
}

func (p *plan) lives(place, version int) bool { return p.since[place] <= version }

// length is that of the block of a message or group at a version.
func (p *plan) length(place, version int) int {
	for _, k := range p.parts[place] {
		if t := p.f.Tokens[k]; t.Op == api.BeginField && t.Size > 0 && !p.lives(k, version) {
			return t.Offset
		}
	}
	return p.f.Tokens[place].Block
}

var bytesOf = []int{1, 1, 2, 4, 8, 1, 2, 4, 8, 4, 8}

// second is a codec of its own, of whole messages at once, written from the document's points 6 and 7.
type second struct {
	*plan
	version int // at which is written, or for whose reader is read
	bytes   []byte

	// In writing:
	rest []api.Val // the nodes that are still to write

	// In reading:
	acting  int
	end     int // what is gone through
	weight  int
	entries int
	tree    []api.Val
}

// write are the bytes of a tree of the form as it was at a version. The tree must be one.
func write(p *plan, version int, m []api.Val) []byte {
	s := &second{plan: p, version: version, rest: m[1:]}
	h, t := p.f.Head, p.f.Tokens[0]
	s.numbers(h.Size, []api.Spot{h.Block, h.Template, h.Schema, h.Version}, p.length(0, version), t.ID, p.f.Schema, version)
	s.writeBlock(0)
	if len(s.rest) > 0 {
		panic("a second codec that has written too little")
	}
	return s.bytes
}

// numbers writes some into so many bytes at the end.
func (s *second) numbers(size int, spots []api.Spot, numbers ...int) {
	at := len(s.bytes)
	s.bytes = append(s.bytes, make([]byte, size)...)
	for i, x := range spots {
		s.put(at+x.Offset, x.Prim, uint64(numbers[i]))
	}
}

func (s *second) put(at int, p api.Prim, w uint64) {
	n := bytesOf[p]
	for i := range n {
		k := i
		if s.f.Order == api.Big {
			k = n - 1 - i
		}
		s.bytes[at+k] = byte(w >> (8 * i))
	}
}

// node is the next one of the tree.
func (s *second) node(kind api.ValKind, name string) api.Val {
	v := s.rest[0]
	if v.Kind != kind || v.Name != name {
		panic("a second codec that has lost its way")
	}
	s.rest = s.rest[1:]
	return v
}

// writeBlock writes the block of a message or entry, and what stands behind it.
func (s *second) writeBlock(place int) {
	base := len(s.bytes)
	s.bytes = append(s.bytes, make([]byte, s.length(place, s.version))...)
	for _, k := range s.parts[place] {
		t := s.f.Tokens[k]
		switch {
		case !s.lives(k, s.version) || t.Op == api.BeginField && len(s.leaves[k]) == 0:
		case t.Op == api.BeginField:
			words := s.node(api.ValField, t.Name).Words
			for i, x := range s.spots(k) {
				s.put(base+x.Offset, x.Prim, words[i])
			}
		case t.Op == api.BeginGroup:
			depth := s.node(api.ValGroup, t.Name).Depth
			n := 0
			for _, v := range s.rest {
				if v.Depth <= depth {
					break
				}
				if v.Depth == depth+1 {
					n++
				}
			}
			s.numbers(t.Size, []api.Spot{t.A, t.B}, s.length(k, s.version), n)
			for range n {
				s.node(api.ValEntry, "")
				s.writeBlock(k)
			}
		case t.Op == api.BeginData:
			text := s.node(api.ValData, t.Name).Text
			s.numbers(t.Size, []api.Spot{t.A}, len(text))
			s.bytes = append(s.bytes, text...)
		}
	}
}

// spots are where a field's words stand in its block.
func (s *second) spots(field int) []api.Spot {
	var out []api.Spot
	for _, k := range s.leaves[field] {
		t := s.f.Tokens[k]
		for i := range t.Length {
			out = append(out, spot(t.Prim, s.f.Tokens[field].Offset+t.Offset+i*bytesOf[t.Prim]))
		}
	}
	return out
}

// read is the tree that a reader of a version sees of the message at a place, and its bytes' number. The reader must be of a version of the message.
func read(p *plan, reader int, b []byte, at int) ([]api.Val, int, api.Errno) {
	s := &second{plan: p, version: reader, bytes: b, end: at}
	h, t := p.f.Head, p.f.Tokens[0]
	switch {
	case at < 0 || at > len(b):
		return nil, 0, api.ErrBuffer
	case h.Size > s.room():
		return nil, 0, api.ErrShort
	case s.get(at, h.Schema) != p.f.Schema:
		return nil, 0, api.ErrSchemaID
	case s.get(at, h.Template) != t.ID:
		return nil, 0, api.ErrTemplate
	}
	length := s.get(at, h.Block)
	s.acting = s.get(at, h.Version)
	s.weight = h.Size + max(length, t.Full)
	switch {
	case s.acting < t.Since || s.acting > p.f.Version:
		return nil, 0, api.ErrActing
	case length < s.reach(0):
		return nil, 0, api.ErrBlock
	case s.weight > api.MaxMessage:
		return nil, 0, api.ErrLong
	}
	s.end += h.Size
	s.told(api.Val{Depth: 1, Name: t.Name})
	if e := s.readBlock(0, 2, length, true); e != ok {
		return nil, 0, e
	}
	return s.tree, s.end - at, ok
}

func (s *second) room() int { return len(s.bytes) - s.end }

func (s *second) told(v api.Val) { s.tree = append(s.tree, v) }

// word is the one at a place.
func (s *second) word(at int, p api.Prim) uint64 {
	n := bytesOf[p]
	w := uint64(0)
	for i := range n {
		k := n - 1 - i
		if s.f.Order == api.Big {
			k = i
		}
		w = w<<8 | uint64(s.bytes[at+k])
	}
	if p >= api.Int8 && p <= api.Int64 {
		spare := 64 - 8*n
		return uint64(int64(w<<spare) >> spare)
	}
	return w
}

func (s *second) get(at int, x api.Spot) int { return int(s.word(at+x.Offset, x.Prim)) }

// isNull tells whether a number of a dimension or a length is the one that may not be told.
func isNull(n int, p api.Prim) bool { return n == 1<<(8*bytesOf[p])-1 }

// reach is how long a block must be at least.
func (s *second) reach(place int) int {
	end := 0
	for _, k := range s.parts[place] {
		if t := s.f.Tokens[k]; t.Op == api.BeginField && s.lives(k, s.acting) {
			end = max(end, t.Offset+t.Size)
		}
	}
	return end
}

// readBlock reads a block that is in the bytes, with all behind it; known is whether the reader knows what holds it.
func (s *second) readBlock(place, depth, length int, known bool) api.Errno {
	if length > s.room() {
		return api.ErrShort
	}
	base := s.end
	s.end += length
	for _, k := range s.parts[place] {
		t := s.f.Tokens[k]
		seen, there := known && s.lives(k, s.version), s.lives(k, s.acting)
		e := ok
		switch {
		case t.Op == api.BeginField && seen && len(s.leaves[k]) > 0:
			s.told(api.Val{Depth: depth, Kind: api.ValField, Name: t.Name, Words: s.words(k, base, there)})
		case t.Op == api.BeginGroup:
			if seen {
				s.told(api.Val{Depth: depth, Kind: api.ValGroup, Name: t.Name})
			}
			if there {
				e = s.readGroup(k, depth+1, seen)
			}
		case t.Op == api.BeginData:
			text := ""
			if there {
				text, e = s.readData(t)
			}
			if seen {
				s.told(api.Val{Depth: depth, Kind: api.ValData, Name: t.Name, Text: text})
			}
		}
		if e != ok {
			return e
		}
	}
	return ok
}

func (s *second) words(field, base int, there bool) []uint64 {
	var out []uint64
	for _, k := range s.leaves[field] {
		t := s.f.Tokens[k]
		for i := range t.Length {
			switch {
			case there:
				out = append(out, s.word(base+s.f.Tokens[field].Offset+t.Offset+i*bytesOf[t.Prim], t.Prim))
			case s.f.Tokens[k-1].Op == api.BeginSet:
				out = append(out, 0)
			default:
				out = append(out, t.Null)
			}
		}
	}
	return out
}

func (s *second) readGroup(place, depth int, seen bool) api.Errno {
	t := s.f.Tokens[place]
	if t.Size > s.room() {
		return api.ErrShort
	}
	length, n := s.get(s.end, t.A), s.get(s.end, t.B)
	s.entries += n
	s.weight += t.Size + n*max(length, t.Full)
	switch {
	case isNull(n, t.B.Prim):
		return api.ErrCount
	case s.entries > api.MaxEntries:
		return api.ErrEntries
	case n > 0 && length < s.reach(place):
		return api.ErrBlock
	case s.weight > api.MaxMessage:
		return api.ErrLong
	}
	s.end += t.Size
	for range n {
		if seen {
			s.told(api.Val{Depth: depth, Kind: api.ValEntry})
		}
		if e := s.readBlock(place, depth+1, length, seen); e != ok {
			return e
		}
	}
	return ok
}

func (s *second) readData(t api.Token) (string, api.Errno) {
	if t.Size > s.room() {
		return "", api.ErrShort
	}
	n := s.get(s.end, t.A)
	s.weight += t.Size + n
	switch {
	case isNull(n, t.A.Prim):
		return "", api.ErrData
	case s.weight > api.MaxMessage:
		return "", api.ErrLong
	case n > s.room()-t.Size:
		return "", api.ErrShort
	}
	text := string(s.bytes[s.end+t.Size : s.end+t.Size+n])
	s.end += t.Size + n
	return text, ok
}
