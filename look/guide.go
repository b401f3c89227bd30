package look

import (
	"stencil/api"
	"stencil/dec"
)

// guide is a decoder that gives up at the first call that is refused.
type guide struct {
	*dec.Decoder
	by   [4]func(name string) (api.Told, api.Errno) // what tells a call of each kind
	base int                                        // where the block lies that was begun last
}

// begin is one with the message at a place of a buffer, for a reader who knows all of the form.
func begin(f api.Form, b []byte, at int) *guide {
	d, err := dec.New(f, f.Version)
	need(err)
	need(d.Wrap(b, at))
	g := &guide{Decoder: d, base: at + f.Head.Size}
	g.by = [...]func(string) (api.Told, api.Errno){
		api.CallField: g.field,
		api.CallGroup: g.group,
		api.CallNext:  g.next,
		api.CallData:  g.data,
	}
	return g
}

func (g *guide) field(name string) (api.Told, api.Errno) {
	words, err := g.Field(name)
	return api.Told{Words: words}, err
}

func (g *guide) group(name string) (api.Told, api.Errno) {
	n, err := g.Group(name)
	return api.Told{Count: n}, err
}

// next begins an entry: its block lies behind all that was gone through.
func (g *guide) next(string) (api.Told, api.Errno) {
	g.base = g.End()
	return api.Told{}, g.Next()
}

func (g *guide) data(name string) (api.Told, api.Errno) {
	s, err := g.Data(name)
	return api.Told{Text: s}, err
}

func (g *guide) tell(kind api.CallKind, name string) api.Told {
	told, err := g.by[kind](name)
	need(err)
	return told
}

// call is what is told of a part.
func (g *guide) call(p *part) api.Told { return g.tell(p.kind, p.name) }

// enter begins the next entry of the group that is open.
func (g *guide) enter() { g.tell(api.CallNext, "") }

// pass goes through members of a row whole. Data counts no entry.
func (g *guide) pass(row []*part) {
	for _, p := range row {
		g.entries(p, g.call(p).Count)
	}
}

// entries goes through so many of a group's whole.
func (g *guide) entries(p *part, n int) {
	for range n {
		g.enter()
		g.pass(p.row)
	}
}

// span is where the thing of a token lies to which the way has led. Of a group and of data the bytes are those that their call goes through.
func (g *guide) span(kind api.CallKind, t api.Token) api.Span {
	if kind == api.CallField {
		from := g.base + t.Offset
		return api.Span{From: from, To: from + t.Size, Kind: api.SpanField}
	}
	from := g.End()
	g.tell(kind, t.Name)
	if kind == api.CallGroup {
		return api.Span{From: from, To: g.End(), Kind: api.SpanDim}
	}
	return api.Span{From: from + t.Size, To: g.End(), Kind: api.SpanData}
}
