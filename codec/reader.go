package codec

import (
	"stencil/api"
	"stencil/dec"
	"stencil/project"
)

// reader is a decoder that goes down a form, and gives up at the first call that is refused.
type reader struct {
	*dec.Decoder
	by   [5]func(*part) // what reads a part, and all that it holds, by its kind
	made []api.Val
}

// begin is a reader of a version, and the message that it is to read.
func begin(f api.Form, version int) (*reader, *part) {
	d, err := dec.New(f, version)
	need(err)
	seen, err := project.At(f, version)
	need(err)
	r := &reader{Decoder: d}
	r.by = [...]func(*part){
		api.ValMessage: r.block,
		api.ValField:   r.field,
		api.ValGroup:   r.group,
		api.ValEntry:   r.entry,
		api.ValData:    r.data,
	}
	return r, messageOf(seen)
}

// need gives up, where there is an error.
func need(err api.Errno) {
	if err != api.OK {
		panic(err)
	}
}

// told is what a call of the decoder's tells of a name.
func told[T any](call func(name string) (T, api.Errno), name string) T {
	what, err := call(name)
	need(err)
	return what
}

// read makes the tree, and answers the place behind the message.
func (r *reader) read(message *part, b []byte, at int) int {
	need(r.Wrap(b, at))
	r.by[message.kind](message)
	end, err := r.Skip()
	need(err)
	return end
}

// node puts one of a part behind the others, with these words, which it keeps, and this text.
func (r *reader) node(p *part, words []uint64, text string) {
	r.made = append(r.made, api.Val{Depth: p.depth, Kind: p.kind, Name: p.name, Words: words, Text: text})
}

// block reads a message or an entry that has begun.
func (r *reader) block(p *part) {
	r.node(p, nil, "")
	for _, held := range p.parts {
		r.by[held.kind](held)
	}
}

func (r *reader) field(p *part) { r.node(p, told(r.Field, p.name), "") }

func (r *reader) group(p *part) {
	n := told(r.Group, p.name)
	r.node(p, nil, "")
	entry := p.parts[0]
	for range n {
		r.by[entry.kind](entry)
	}
}

func (r *reader) entry(p *part) {
	need(r.Next())
	r.block(p)
}

func (r *reader) data(p *part) { r.node(p, nil, told(r.Data, p.name)) }
