package value

import (
	"iter"
	"slices"
	"strings"

	"stencil/api"
	"stencil/ir"
	"stencil/prim"
)

// part is what is asked of a message, field, group, entry or data of the form: a copy, which nothing changes once it is made.
type part struct {
	kind     api.ValKind
	name     string
	depth    int // of its nodes
	since    int
	weight   int              // of each of its nodes, without its Text
	bytes    int              // that each of them takes at the form's version, without its Text
	most     uint64           // how many entries, or bytes of data, may be told
	optional bool             // a field that may be null
	leaves   []leaf           // of a field
	words    int              // of a field: as many as its leaves have elements
	parts    []*part          // of a message or entry those that stand in a tree, of a group its entry
	fields   map[string]*part // of a message or entry those of its parts that are fields
}

// checked is the part of a form's message, if it is a form.
func checked(f api.Form) (*part, api.Errno) {
	if err, _ := ir.Check(f); err != api.OK {
		return nil, api.ErrTokens
	}
	return messageOf(f), api.OK
}

// messageOf goes through the tokens by itself: ir's calls would look through the whole form for each part.
func messageOf(f api.Form) *part {
	p := blockAt(f.Tokens, 0, 1)
	p.kind, p.name = api.ValMessage, strings.Clone(f.Tokens[0].Name)
	p.weight += f.Head.Size
	p.bytes += f.Head.Size
	return p
}

// blockAt is an entry of the group at a place; and a message, but for what that has more.
func blockAt(tokens []api.Token, place, depth int) *part {
	t := tokens[place]
	b := &part{kind: api.ValEntry, depth: depth, since: t.Since, weight: t.Full, bytes: t.Block, fields: map[string]*part{}}
	for i := place + 1; i < t.Pair; i = tokens[i].Pair + 1 {
		p := partAt(tokens, i, depth+1)
		if p.kind == api.ValField {
			if len(p.leaves) == 0 {
				continue
			}
			b.fields[p.name] = p
		}
		b.parts = append(b.parts, p)
	}
	return b
}

func partAt(tokens []api.Token, place, depth int) *part {
	t := tokens[place]
	p := &part{name: strings.Clone(t.Name), depth: depth, since: t.Since}
	switch t.Op {
	case api.BeginField:
		p.kind, p.optional, p.leaves = api.ValField, t.Presence == api.Optional, leavesOf(tokens, place)
		for _, l := range p.leaves {
			p.words += l.length
		}
	case api.BeginGroup:
		p.kind, p.weight, p.bytes, p.most = api.ValGroup, t.Size, t.Size, prim.Max(t.B.Prim)
		p.parts = []*part{blockAt(tokens, place, depth+1)}
	case api.BeginData:
		p.kind, p.weight, p.bytes, p.most = api.ValData, t.Size, t.Size, prim.Max(t.A.Prim)
	}
	return p
}

// node is one of the part, with these words, which it keeps, and this text.
func (p *part) node(words []uint64, text string) api.Val {
	return api.Val{Depth: p.depth, Kind: p.kind, Name: p.name, Words: words, Text: strings.Clone(text)}
}

// nullNode is one that nobody has set.
func (p *part) nullNode() api.Val {
	var words []uint64
	for _, l := range p.leaves {
		words = append(words, slices.Repeat([]uint64{l.null}, l.length)...)
	}
	return p.node(words, "")
}

// each gives a field's words, each with its leaf.
func (p *part) each(words []uint64) iter.Seq2[*leaf, uint64] {
	return func(yield func(*leaf, uint64) bool) {
		from := 0
		for i := range p.leaves {
			l := &p.leaves[i]
			for _, w := range words[from : from+l.length] {
				if !yield(l, w) {
					return
				}
			}
			from += l.length
		}
	}
}

// faultOf is why the part can't have these words, or this text.
func (p *part) faultOf(words []uint64, text string) api.Errno {
	if p.kind == api.ValData && uint64(len(text)) > p.most {
		return api.ErrData
	}
	if len(words) != p.words {
		return api.ErrWords
	}
	for l, w := range p.each(words) {
		if !prim.Fits(l.prim, w) {
			return api.ErrFit
		}
	}
	return api.OK
}

// isOdd tells whether a word of a field's isn't as its leaf wants it.
func (p *part) isOdd(words []uint64) bool {
	for l, w := range p.each(words) {
		if l.isOdd(w, p.optional) {
			return true
		}
	}
	return false
}

// copied are words in new memory.
func copied(words []uint64) []uint64 { return append([]uint64(nil), words...) }
