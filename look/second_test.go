package look_test

import (
	"fmt"
	"slices"

	"stencil/api"
	"stencil/ir"
)

// plan is what the second look asks of a form, looked for once.
type plan struct {
	f      api.Form
	parts  map[int][]int // of each message and group, by their places
	leaves map[int][]int // of each field
	since  map[int]int   // of each part: the first version at which it lives
}

func planOf(f api.Form) *plan {
	p := &plan{f: f, parts: map[int][]int{}, leaves: map[int][]int{}, since: map[int]int{0: f.Tokens[0].Since}}
	for i, t := range f.Tokens {
		switch t.Op {
		case api.BeginMessage, api.BeginGroup:
			p.parts[i] = slices.Collect(ir.Parts(f, i))
			for _, k := range p.parts[i] {
				p.since[k] = max(p.since[i], f.Tokens[k].Since)
			}
		case api.BeginField:
			p.leaves[i] = slices.Collect(ir.Leaves(f, i))
		}
	}
	return p
}

// placeOf is the token that a path's last step names; -1, if it isn't one of the form.
func (p *plan) placeOf(path []api.Step) int {
	place := -1
	for i, s := range path {
		inside := max(place, 0)
		k := slices.IndexFunc(p.parts[inside], func(k int) bool { return p.f.Tokens[k].Name == s.Name })
		if k < 0 {
			return -1
		}
		place = p.parts[inside][k]
		op, isLast := p.f.Tokens[place].Op, i == len(path)-1
		switch {
		case op == api.BeginField && len(p.leaves[place]) == 0,
			isLast && s.Entry != -1,
			!isLast && (s.Entry < 0 || op != api.BeginGroup):
			return -1
		}
	}
	return place
}

var bytesOf = []int{1, 1, 2, 4, 8, 1, 2, 4, 8, 4, 8}

// isWord tells whether a word is one of the type.
func isWord(p api.Prim, w uint64) bool {
	spare := 64 - 8*bytesOf[p]
	if p >= api.Int8 && p <= api.Int64 {
		return uint64(int64(w<<spare)>>spare) == w
	}
	return w<<spare>>spare == w
}

// thing is what stands in a message's bytes under a path.
type thing struct {
	told  api.Told
	span  api.Span // without its Path
	lives bool
	spots []api.Spot // of a field that lives: where its words stand in the buffer
}

// sight is all that stands in a message's bytes up to the first thing that is refused: gone through once from the front to the end, whatever the path, by the document's points 6, 7 and 9.
type sight struct {
	*plan
	bytes   []byte
	end     int // what is gone through
	acting  int
	weight  int
	entries int
	things  map[string]thing // by their paths' texts
	err     api.Errno        // with which it ended
}

func sightOf(p *plan, b []byte, at int) *sight {
	s := &sight{plan: p, bytes: b, end: at, things: map[string]thing{}}
	s.err = s.message(at)
	return s
}

func (s *sight) message(at int) api.Errno {
	h, t := s.f.Head, s.f.Tokens[0]
	switch {
	case at < 0 || at > len(s.bytes):
		return api.ErrBuffer
	case h.Size > s.room():
		return api.ErrShort
	case s.number(at, h.Schema) != s.f.Schema:
		return api.ErrSchemaID
	case s.number(at, h.Template) != t.ID:
		return api.ErrTemplate
	}
	length := s.number(at, h.Block)
	s.acting = s.number(at, h.Version)
	s.weight = h.Size + max(length, t.Full)
	switch {
	case s.acting < t.Since || s.acting > s.f.Version:
		return api.ErrActing
	case length < s.reach(0):
		return api.ErrBlock
	case s.weight > api.MaxMessage:
		return api.ErrLong
	}
	s.end += h.Size
	return s.block(0, "", length)
}

func (s *sight) room() int { return len(s.bytes) - s.end }

func (s *sight) lives(place int) bool { return s.since[place] <= s.acting }

// word is the one at a place.
func (s *sight) word(at int, p api.Prim) uint64 {
	n := bytesOf[p]
	w := uint64(0)
	for i := range n {
		k := n - 1 - i
		if s.f.Order == api.Big {
			k = i
		}
		w = w<<8 | uint64(s.bytes[at+k])
	}
	if p >= api.Int8 && p <= api.Int64 {
		spare := 64 - 8*n
		return uint64(int64(w<<spare) >> spare)
	}
	return w
}

// putWord writes one where it stands.
func putWord(b []byte, at int, p api.Prim, o api.Endian, w uint64) {
	n := bytesOf[p]
	for i := range n {
		k := i
		if o == api.Big {
			k = n - 1 - i
		}
		b[at+k] = byte(w >> (8 * i))
	}
}

func (s *sight) number(at int, x api.Spot) int { return int(s.word(at+x.Offset, x.Prim)) }

// isNull tells whether a number of a dimension or a length is the one that may not be told.
func isNull(n int, p api.Prim) bool { return n == 1<<(8*bytesOf[p])-1 }

// reach is how long a block must be at least.
func (s *sight) reach(place int) int {
	end := 0
	for _, k := range s.parts[place] {
		if t := s.f.Tokens[k]; t.Op == api.BeginField && s.lives(k) {
			end = max(end, t.Offset+t.Size)
		}
	}
	return end
}

// block goes through one, and all behind it; ahead is the text of the steps that lead to what it holds.
func (s *sight) block(place int, ahead string, length int) api.Errno {
	if length > s.room() {
		return api.ErrShort
	}
	base := s.end
	s.end += length
	// All fields may be told as soon as the block has begun.
	for _, k := range s.parts[place] {
		if t := s.f.Tokens[k]; t.Op == api.BeginField && len(s.leaves[k]) > 0 {
			s.things[ahead+t.Name] = s.field(k, base)
		}
	}
	for _, k := range s.parts[place] {
		e := ok
		switch s.f.Tokens[k].Op {
		case api.BeginGroup:
			e = s.group(k, ahead)
		case api.BeginData:
			e = s.data(k, ahead)
		}
		if e != ok {
			return e
		}
	}
	return ok
}

func (s *sight) field(place, base int) thing {
	t := s.f.Tokens[place]
	x := thing{lives: s.lives(place)}
	if x.lives {
		x.span = api.Span{From: base + t.Offset, To: base + t.Offset + t.Size, Kind: api.SpanField}
	}
	for _, k := range s.leaves[place] {
		leaf := s.f.Tokens[k]
		for i := range leaf.Length {
			at := base + t.Offset + leaf.Offset + i*bytesOf[leaf.Prim]
			switch {
			case x.lives:
				x.told.Words = append(x.told.Words, s.word(at, leaf.Prim))
				x.spots = append(x.spots, spot(leaf.Prim, at))
			case s.f.Tokens[k-1].Op == api.BeginSet:
				x.told.Words = append(x.told.Words, 0)
			default:
				x.told.Words = append(x.told.Words, leaf.Null)
			}
		}
	}
	return x
}

func (s *sight) group(place int, ahead string) api.Errno {
	t := s.f.Tokens[place]
	name := ahead + t.Name
	if !s.lives(place) {
		s.things[name] = thing{}
		return ok
	}
	if t.Size > s.room() {
		return api.ErrShort
	}
	length, n := s.number(s.end, t.A), s.number(s.end, t.B)
	s.entries += n
	s.weight += t.Size + n*max(length, t.Full)
	switch {
	case isNull(n, t.B.Prim):
		return api.ErrCount
	case s.entries > api.MaxEntries:
		return api.ErrEntries
	case n > 0 && length < s.reach(place):
		return api.ErrBlock
	case s.weight > api.MaxMessage:
		return api.ErrLong
	}
	s.things[name] = thing{told: api.Told{Count: n}, span: api.Span{From: s.end, To: s.end + t.Size, Kind: api.SpanDim}, lives: true}
	s.end += t.Size
	for i := range n {
		if e := s.block(place, fmt.Sprintf("%s[%d].", name, i), length); e != ok {
			return e
		}
	}
	return ok
}

func (s *sight) data(place int, ahead string) api.Errno {
	t := s.f.Tokens[place]
	if !s.lives(place) {
		s.things[ahead+t.Name] = thing{}
		return ok
	}
	if t.Size > s.room() {
		return api.ErrShort
	}
	n := s.number(s.end, t.A)
	s.weight += t.Size + n
	switch {
	case isNull(n, t.A.Prim):
		return api.ErrData
	case s.weight > api.MaxMessage:
		return api.ErrLong
	case n > s.room()-t.Size:
		return api.ErrShort
	}
	from := s.end + t.Size
	s.things[ahead+t.Name] = thing{told: api.Told{Text: string(s.bytes[from : from+n])}, span: api.Span{From: from, To: from + n, Kind: api.SpanData}, lives: true}
	s.end = from + n
	return ok
}

// find is what stands under a path, or why the way there ends. What isn't among the things lies behind that which was refused.
func (s *sight) find(path []api.Step) (thing, api.Errno) {
	if s.placeOf(path) < 0 {
		return thing{}, api.ErrPath
	}
	for i, x := range path[:len(path)-1] {
		front := slices.Clone(path[:i+1])
		front[i].Entry = -1
		g, has := s.things[say(front)]
		switch {
		case !has:
			return thing{}, s.refused(path)
		case x.Entry >= g.told.Count:
			return thing{}, api.ErrPath
		}
	}
	x, has := s.things[say(path)]
	if !has {
		return thing{}, s.refused(path)
	}
	return x, ok
}

func (s *sight) refused(path []api.Step) api.Errno {
	if s.err == ok {
		panic("a second look that has lost " + say(path))
	}
	return s.err
}
