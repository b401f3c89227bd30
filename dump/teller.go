package dump

import (
	"slices"

	"stencil/api"
	"stencil/dec"
)

// teller is a decoder that gives the spans of what its calls have gone through. Once it is over nothing that is asked of it does anything.
type teller struct {
	*dec.Decoder
	yield  func(api.Span) bool
	start  int  // where the message begins
	told   int  // the place behind the last span
	isOver bool // whether the reader of the spans has stopped, or a call was refused
}

// tell gives what lies between the span ahead and a place, if that is anything. The path is that of what holds it, and steps that lead on from there.
func (t *teller) tell(to int, kind api.SpanKind, path []api.Step, on ...api.Step) {
	if t.isOver || to == t.told {
		return
	}
	s := api.Span{From: t.told - t.start, To: to - t.start, Kind: kind, Path: slices.Concat(path, on)}
	t.told = to
	t.isOver = !t.yield(s)
}

// block gives the spans of the one that was gone through last.
func (t *teller) block(fields []field, path []api.Step) {
	from := t.told
	for _, f := range fields {
		t.tell(from+f.from, api.SpanPad, path)
		t.tell(from+f.to, api.SpanField, path, thing(f.name))
	}
	t.tell(t.End(), api.SpanPad, path)
}

// member gives the spans of a group's dimension, or of data, and answers how many entries follow.
func (t *teller) member(p *part, path []api.Step) int {
	if t.isOver {
		return 0
	}
	if p.isGroup {
		n, err := t.Group(p.name)
		t.isOver = err != api.OK
		t.tell(t.End(), api.SpanDim, path, thing(p.name))
		return n
	}
	_, err := t.Data(p.name)
	t.isOver = err != api.OK
	t.tell(t.told+p.size, api.SpanLength, path, thing(p.name))
	t.tell(t.End(), api.SpanData, path, thing(p.name))
	return 0
}

// enter begins the next entry of the group that is open.
func (t *teller) enter() {
	if !t.isOver {
		t.isOver = t.Next() != api.OK
	}
}

// thing is the step to a field, group or data.
func thing(name string) api.Step { return api.Step{Name: name, Entry: -1} }
