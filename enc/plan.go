package enc

import (
	"iter"
	"strings"

	"stencil/api"
	"stencil/cursor"
	"stencil/order"
	"stencil/prim"
)

// plan is what an encoder asks of its form: a copy, which nothing changes once it is made.
type plan struct {
	order   api.Endian
	head    api.Head
	numbers cursor.Head    // of every message's header
	fresh   *order.Machine // one behind which no call has come: each message gets a copy
	blocks  map[int]*block // by the places of their tokens
}

// block is that of a message, or of a group's entries.
type block struct {
	length int
	weight int
	parts  map[string]*part
}

// part is a field, group or data right inside a block. The machine refuses the calls of constants, so what is told of these is never asked.
type part struct {
	token  api.Token // of a group or data: what the cursor asks of it
	leaves []leaf    // of a field
	words  int       // of a field: as many as its leaves have elements
}

// leaf is so many elements one behind the other.
type leaf struct {
	first  api.Spot // in the block
	length int
}

// planOf goes through the tokens by itself: ir's calls would look through the whole form for each part.
func planOf(f api.Form) plan {
	m := f.Tokens[0]
	p := plan{order: f.Order, head: f.Head, blocks: map[int]*block{}}
	p.numbers = cursor.Head{Block: uint64(m.Block), Template: uint64(m.ID), Schema: uint64(f.Schema), Version: uint64(f.Version)}
	p.fresh, _ = order.New(f)
	for i, t := range f.Tokens {
		if t.Op == api.BeginMessage || t.Op == api.BeginGroup {
			p.blocks[i] = blockAt(f.Tokens, i)
		}
	}
	return p
}

func blockAt(tokens []api.Token, place int) *block {
	t := tokens[place]
	b := &block{length: t.Block, weight: t.Full, parts: map[string]*part{}}
	for i := place + 1; i < t.Pair; i = tokens[i].Pair + 1 {
		b.parts[strings.Clone(tokens[i].Name)] = partAt(tokens, i)
	}
	return b
}

func partAt(tokens []api.Token, place int) *part {
	t := tokens[place]
	if t.Op != api.BeginField {
		return &part{token: api.Token{Op: t.Op, Size: t.Size, Block: t.Block, Full: t.Full, A: t.A, B: t.B}}
	}
	p := &part{}
	for _, inside := range tokens[place:t.Pair] {
		if inside.Op == api.Encoding && inside.Presence != api.Constant {
			p.leaves = append(p.leaves, leaf{first: api.Spot{Prim: inside.Prim, Offset: t.Offset + inside.Offset}, length: inside.Length})
			p.words += inside.Length
		}
	}
	return p
}

// each gives a field's words, which are as many as it wants, each with where it stands in the block.
func (p *part) each(words []uint64) iter.Seq2[api.Spot, uint64] {
	return func(yield func(api.Spot, uint64) bool) {
		rest := words
		for _, l := range p.leaves {
			at := l.first
			for _, w := range rest[:l.length] {
				if !yield(at, w) {
					return
				}
				at.Offset += prim.Size(at.Prim)
			}
			rest = rest[l.length:]
		}
	}
}
