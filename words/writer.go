package words

import (
	"strings"

	"stencil/api"
	"stencil/number"
	"stencil/text"
)

// writer goes through a tree of a form, node by node.
type writer struct {
	*plan
	strings.Builder
	by   [5]func(p *part) // what writes a part of each kind
	list []api.Val        // the nodes that are still to be written
}

func writerOf(p *plan, m []api.Val) *writer {
	w := &writer{plan: p, list: m}
	w.by = [...]func(*part){
		api.ValField: w.field,
		api.ValGroup: w.group,
		api.ValData:  w.data,
	}
	return w
}

func (w *writer) text() string {
	w.block(w.message)
	return w.String()
}

// take is the next node.
func (w *writer) take() api.Val {
	v := w.list[0]
	w.list = w.list[1:]
	return v
}

// stands tells whether the next node is a block's.
func (w *writer) stands(b *block) bool {
	return len(w.list) > 0 && w.list[0].Kind == b.kind && w.list[0].Depth == b.depth
}

func (w *writer) block(b *block) {
	w.take()
	w.WriteString("{")
	for i, p := range b.parts {
		w.between(i, " ")
		w.WriteString(p.name)
		w.WriteString(":")
		w.by[p.kind](p)
	}
	w.WriteString("}")
}

// between writes what stands ahead of each thing of a row but the first.
func (w *writer) between(i int, s string) {
	if i > 0 {
		w.WriteString(s)
	}
}

func (w *writer) field(p *part) {
	words := w.take().Words
	if p.areNull(words) {
		w.WriteString(null)
		return
	}
	for i, l := range p.leaves {
		w.between(i, ";")
		w.leaf(l, words[:l.length])
		words = words[l.length:]
	}
}

func (w *writer) leaf(l leaf, words []uint64) {
	name, isNamed := w.choiceOf(l, words[0])
	switch {
	case isNamed:
		w.WriteString(name)
	case l.prim == api.Char:
		w.WriteString(text.Quote(charsOf(words)))
	default:
		s, _ := number.Join(l.prim, words)
		w.WriteString(s)
	}
}

func charsOf(words []uint64) string {
	b := make([]byte, len(words))
	for i, w := range words {
		b[i] = byte(w)
	}
	return string(b)
}

func (w *writer) group(p *part) {
	w.take()
	w.WriteString("[")
	for i := 0; w.stands(p.entry); i++ {
		w.between(i, " ")
		w.block(p.entry)
	}
	w.WriteString("]")
}

func (w *writer) data(p *part) { w.WriteString(text.Quote(w.take().Text)) }
