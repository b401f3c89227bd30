package enc

import (
	"stencil/api"
	"stencil/prim"
)

// here is the block in which the machine stands behind a call: that of the field, group or data which the call has named, or the entry that it has begun.
func (e *Encoder) here() *block { return e.blocks[e.Inside()] }

// field asks of all words ahead of the first one that is written.
func (e *Encoder) field(c api.Call) api.Errno {
	p := e.here().parts[c.Name]
	if len(c.Words) != p.words {
		return api.ErrWords
	}
	for s, w := range p.each(c.Words) {
		if !prim.Fits(s.Prim, w) {
			return api.ErrFit
		}
	}
	for s, w := range p.each(c.Words) {
		e.Put(e.block+s.Offset, s.Prim, w)
	}
	return api.OK
}

// group weighs all entries at once, though none is there yet.
func (e *Encoder) group(c api.Call) api.Errno {
	t := e.here().parts[c.Name].token
	weight := e.weight + t.Size + c.Count*t.Full
	if weight > api.MaxMessage {
		return api.ErrLong
	}
	if err := e.PutDim(t, t.Block, c.Count); err != api.OK {
		return err
	}
	e.weight = weight
	return api.OK
}

func (e *Encoder) next(api.Call) api.Errno {
	at, err := e.Claim(e.here().length)
	if err != api.OK {
		return err
	}
	e.block = at
	return api.OK
}

// data asks by itself whether the length may tell the bytes: the cursor would do so only behind the weight.
func (e *Encoder) data(c api.Call) api.Errno {
	t := e.here().parts[c.Name].token
	if uint64(len(c.Text)) > prim.Max(t.A.Prim) {
		return api.ErrData
	}
	weight := e.weight + t.Size + len(c.Text)
	if weight > api.MaxMessage {
		return api.ErrLong
	}
	if err := e.PutData(t, c.Text); err != api.OK {
		return err
	}
	e.weight = weight
	return api.OK
}
