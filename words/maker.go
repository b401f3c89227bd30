package words

import "stencil/api"

// maker makes a message's tree of what a text says.
type maker struct {
	made    []api.Val
	bytes   int // that the message weighs at least, by what is made
	entries int
}

// treeOf is the tree that a message's text says, or as much of it as value.Check needs to refuse it: a short text may say entries that have words without end.
func treeOf(message *block, all []said) []api.Val {
	k := &maker{}
	k.block(message, all)
	return k.made
}

// isOver tells whether value.Check refuses what is made, whatever comes behind.
func (k *maker) isOver() bool {
	return k.bytes > api.MaxMessage || k.entries > api.MaxEntries
}

func (k *maker) block(b *block, all []said) {
	if k.isOver() {
		return
	}
	k.add(api.Val{Depth: b.depth, Kind: b.kind, Name: b.name})
	found := make([]said, len(b.parts))
	for _, s := range all {
		found[s.part.number] = s
	}
	for i, p := range b.parts {
		k.part(p, found[i])
	}
}

func (k *maker) part(p *part, s said) {
	words := s.words
	if len(words) == 0 {
		words = p.nulls()
	}
	k.add(api.Val{Depth: p.depth, Kind: p.kind, Name: p.name, Words: words, Text: s.text})
	for _, inside := range s.blocks {
		k.block(p.entry, inside)
	}
}

// add puts a node behind the others. Every word takes a byte at least, and so does a group's number of entries, and data's length.
func (k *maker) add(v api.Val) {
	k.made = append(k.made, v)
	k.bytes += len(v.Words) + len(v.Text)
	switch v.Kind {
	case api.ValEntry:
		k.entries++
	case api.ValGroup, api.ValData:
		k.bytes++
	}
}
