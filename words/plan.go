package words

import (
	"strings"

	"stencil/api"
)

// null says a field all of whose words are its null words. It is no choice's name, whatever choices are called.
const null = "null"

// plan is a form with what is looked up in it.
type plan struct {
	api.Form
	message *block
	parts   map[nameIn]*part
	values  map[nameIn]uint64 // of enums' choices
	choices map[wordIn]int    // where their tokens stand
}

// nameIn is a name in what begins at a token: a part's in its block, a choice's behind its leaf.
type nameIn struct {
	place int
	name  string
}

// wordIn is a word of a leaf.
type wordIn struct {
	place int
	word  uint64
}

// block is a message, or an entry of a group.
type block struct {
	place int // of the token of the message, or group
	kind  api.ValKind
	name  string
	depth int // of its nodes
	parts []*part
}

// part is a field that has a leaf, a group or data.
type part struct {
	kind   api.ValKind
	name   string
	depth  int    // of its nodes
	number int    // in its block
	leaves []leaf // of a field
	entry  *block // of a group
}

// leaf is an Encoding that takes bytes.
type leaf struct {
	place  int
	prim   api.Prim
	length int
	null   uint64
}

// planOf is that of a value that is a form. It goes through the tokens by itself: ir's calls would look through the whole form for each part.
func planOf(f api.Form) *plan {
	p := &plan{Form: f, parts: map[nameIn]*part{}, values: map[nameIn]uint64{}, choices: map[wordIn]int{}}
	p.message = p.blockAt(0, 1)
	p.message.kind, p.message.name = api.ValMessage, strings.Clone(f.Tokens[0].Name)
	return p
}

// blockAt is an entry of the group at a place; and a message, but for what that has else.
func (p *plan) blockAt(place, depth int) *block {
	b := &block{place: place, kind: api.ValEntry, depth: depth}
	for i := place + 1; i < p.Tokens[place].Pair; i = p.Tokens[i].Pair + 1 {
		held := p.partAt(i, depth+1)
		if held.kind == api.ValField && len(held.leaves) == 0 {
			continue
		}
		held.number = len(b.parts)
		b.parts = append(b.parts, held)
		p.parts[nameIn{place, held.name}] = held
	}
	return b
}

func (p *plan) partAt(place, depth int) *part {
	t := p.Tokens[place]
	held := &part{name: strings.Clone(t.Name), depth: depth}
	switch t.Op {
	case api.BeginField:
		held.kind, held.leaves = api.ValField, p.leavesOf(place)
	case api.BeginGroup:
		held.kind, held.entry = api.ValGroup, p.blockAt(place, depth+1)
	case api.BeginData:
		held.kind = api.ValData
	}
	return held
}

// leavesOf are those of the field at a place.
func (p *plan) leavesOf(place int) []leaf {
	if p.Tokens[place].Presence == api.Constant {
		return nil
	}
	var leaves []leaf
	for i := place + 1; i < p.Tokens[place].Pair; i++ {
		if t := p.Tokens[i]; t.Op == api.Encoding && t.Presence != api.Constant {
			leaves = append(leaves, p.leafAt(i))
		}
	}
	return leaves
}

func (p *plan) leafAt(place int) leaf {
	t := p.Tokens[place]
	l := leaf{place: place, prim: t.Prim, length: t.Length, null: t.Null}
	switch p.Tokens[place-1].Op {
	case api.BeginSet:
		l.null = 0
	case api.BeginEnum:
		p.learnChoices(place)
	}
	return l
}

// learnChoices takes the names and the Values of an enum's choices in.
func (p *plan) learnChoices(place int) {
	for i := place + 1; p.Tokens[i].Op == api.Choice; i++ {
		if c := p.Tokens[i]; c.Name != null {
			p.values[nameIn{place, c.Name}] = c.Value
			p.choices[wordIn{place, c.Value}] = i
		}
	}
}

// part is that of a name in a block.
func (p *plan) part(b *block, name string) (*part, bool) {
	held, known := p.parts[nameIn{b.place, name}]
	return held, known
}

// valueOf is the word that a choice's name says in a leaf.
func (p *plan) valueOf(l leaf, name string) (uint64, bool) {
	w, known := p.values[nameIn{l.place, name}]
	return w, known
}

// choiceOf is the name of the choice that says a word in a leaf.
func (p *plan) choiceOf(l leaf, w uint64) (string, bool) {
	i, known := p.choices[wordIn{l.place, w}]
	if !known {
		return "", false
	}
	return p.Tokens[i].Name, true
}

// nulls are a field's null words. They aren't kept: all together they may be far more than the form has tokens.
func (p *part) nulls() []uint64 {
	var words []uint64
	for _, l := range p.leaves {
		for range l.length {
			words = append(words, l.null)
		}
	}
	return words
}

// areNull tells whether a field's words are its null words.
func (p *part) areNull(words []uint64) bool {
	for _, l := range p.leaves {
		for _, w := range words[:l.length] {
			if w != l.null {
				return false
			}
		}
		words = words[l.length:]
	}
	return true
}
