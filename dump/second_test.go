package dump_test

import (
	"fmt"
	"slices"

	"stencil/api"
	"stencil/ir"
)

// plan is what the second look asks of a form, looked for once.
type plan struct {
	f     api.Form
	parts map[int][]int // of each message and group, by their places
	since map[int]int   // of each part: the first version at which it lives
}

func planOf(f api.Form) *plan {
	p := &plan{f: f, parts: map[int][]int{}, since: map[int]int{0: f.Tokens[0].Since}}
	for i, t := range f.Tokens {
		if t.Op != api.BeginMessage && t.Op != api.BeginGroup {
			continue
		}
		p.parts[i] = slices.Collect(ir.Parts(f, i))
		for _, k := range p.parts[i] {
			p.since[k] = max(p.since[i], f.Tokens[k].Since)
		}
	}
	return p
}

// label is what a byte is, and the text of the path that it has.
type label struct {
	kind api.SpanKind
	path string
}

// sight is a message's bytes, each of which gets its label as it is gone through, by the document's points 6, 7 and 9: a block is of no field at first, then its fields are laid over it. Spans are rows of bytes with one label.
type sight struct {
	*plan
	bytes   []byte
	at      int
	labels  []label // of the bytes from at on, as far as they are gone through
	acting  int
	weight  int
	entries int
	err     api.Errno // with which it ended
}

func sightOf(p *plan, b []byte, at int) *sight {
	s := &sight{plan: p, bytes: b, at: at}
	s.err = s.message()
	return s
}

func (s *sight) end() int { return s.at + len(s.labels) }

func (s *sight) room() int { return len(s.bytes) - s.end() }

func (s *sight) lives(place int) bool { return s.since[place] <= s.acting }

// put goes through bytes that have one label.
func (s *sight) put(n int, kind api.SpanKind, path string) {
	for range n {
		s.labels = append(s.labels, label{kind, path})
	}
}

var bytesOf = []int{1, 1, 2, 4, 8, 1, 2, 4, 8, 4, 8}

func (s *sight) number(at int, x api.Spot) int {
	n := bytesOf[x.Prim]
	w := 0
	for i := range n {
		k := n - 1 - i
		if s.f.Order == api.Big {
			k = i
		}
		w = w<<8 | int(s.bytes[at+x.Offset+k])
	}
	return w
}

// isNull tells whether a number of a dimension or a length is the one that may not be told.
func isNull(n int, p api.Prim) bool { return n == 1<<(8*bytesOf[p])-1 }

func (s *sight) message() api.Errno {
	h, t := s.f.Head, s.f.Tokens[0]
	switch {
	case s.at < 0 || s.at > len(s.bytes):
		return api.ErrBuffer
	case h.Size > s.room():
		return api.ErrShort
	case s.number(s.at, h.Schema) != s.f.Schema:
		return api.ErrSchemaID
	case s.number(s.at, h.Template) != t.ID:
		return api.ErrTemplate
	}
	length := s.number(s.at, h.Block)
	s.acting = s.number(s.at, h.Version)
	s.weight = h.Size + max(length, t.Full)
	switch {
	case s.acting < t.Since || s.acting > s.f.Version:
		return api.ErrActing
	case length < s.reach(0):
		return api.ErrBlock
	case s.weight > api.MaxMessage:
		return api.ErrLong
	case length > s.room()-h.Size:
		return api.ErrShort
	}
	s.put(h.Size, api.SpanHead, "")
	return s.block(0, "", length)
}

// reach is how long a block must be at least.
func (s *sight) reach(place int) int {
	end := 0
	for _, k := range s.parts[place] {
		if t := s.f.Tokens[k]; t.Op == api.BeginField && s.lives(k) {
			end = max(end, t.Offset+t.Size)
		}
	}
	return end
}

// on is a path and a name behind it.
func on(path, name string) string {
	if path == "" {
		return name
	}
	return path + "." + name
}

// block goes through one, and all behind it; the path is that of what it belongs to.
func (s *sight) block(place int, path string, length int) api.Errno {
	if length > s.room() {
		return api.ErrShort
	}
	base := len(s.labels)
	s.put(length, api.SpanPad, path)
	for _, k := range s.parts[place] {
		t := s.f.Tokens[k]
		name := on(path, t.Name)
		e := ok
		switch {
		case !s.lives(k):
		case t.Op == api.BeginField:
			for i := range t.Size {
				s.labels[base+t.Offset+i] = label{api.SpanField, name}
			}
		case t.Op == api.BeginGroup:
			e = s.group(k, name)
		case t.Op == api.BeginData:
			e = s.data(k, name)
		}
		if e != ok {
			return e
		}
	}
	return ok
}

func (s *sight) group(place int, name string) api.Errno {
	t := s.f.Tokens[place]
	if t.Size > s.room() {
		return api.ErrShort
	}
	length, n := s.number(s.end(), t.A), s.number(s.end(), t.B)
	s.entries += n
	s.weight += t.Size + n*max(length, t.Full)
	switch {
	case isNull(n, t.B.Prim):
		return api.ErrCount
	case s.entries > api.MaxEntries:
		return api.ErrEntries
	case n > 0 && length < s.reach(place):
		return api.ErrBlock
	case s.weight > api.MaxMessage:
		return api.ErrLong
	}
	s.put(t.Size, api.SpanDim, name)
	for i := range n {
		if e := s.block(place, fmt.Sprintf("%s[%d]", name, i), length); e != ok {
			return e
		}
	}
	return ok
}

func (s *sight) data(place int, name string) api.Errno {
	t := s.f.Tokens[place]
	if t.Size > s.room() {
		return api.ErrShort
	}
	n := s.number(s.end(), t.A)
	s.weight += t.Size + n
	switch {
	case isNull(n, t.A.Prim):
		return api.ErrData
	case s.weight > api.MaxMessage:
		return api.ErrLong
	case n > s.room()-t.Size:
		return api.ErrShort
	}
	s.put(t.Size, api.SpanLength, name)
	s.put(n, api.SpanData, name)
	return ok
}

// spans are those of all that was gone through.
func (s *sight) spans() []api.Span {
	var out []api.Span
	for i, x := range s.labels {
		if i == 0 || x != s.labels[i-1] {
			out = append(out, api.Span{From: s.at + i, Kind: x.kind, Path: steps(x.path)})
		}
		out[len(out)-1].To = s.at + i + 1
	}
	return out
}
