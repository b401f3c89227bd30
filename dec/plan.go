package dec

import (
	"sort"
	"strings"

	"stencil/api"
	"stencil/cursor"
	"stencil/order"
)

// plan is what a decoder asks of its form: a copy, which nothing changes once it is made.
type plan struct {
	order    api.Endian
	head     api.Head
	schema   uint64
	template uint64
	first    uint64         // the versions of the form, from the first one
	last     uint64         // to the last
	fresh    *order.Machine // of the reader's form, behind which no call has come: each message gets a copy
	message  *block
}

// block is that of a message, or of a group's entries, with the row behind it.
type block struct {
	full   int
	fields map[string]*part
	marks  []mark // of all its fields, in order
	row    []*part
}

// mark is how far a block's fields reach from its beginning up to one of them, which is the newest of these.
type mark struct{ since, end int }

// part is a field, group or data right inside a block. The machine refuses the calls of constants, so what is told of these is never asked.
type part struct {
	kind   api.CallKind
	since  int
	token  api.Token // of a group or data: what the cursor asks of it
	entry  *block    // of a group
	leaves []leaf    // of a field
	words  int       // of a field: as many as its leaves have elements
}

// leaf is so many elements one behind the other.
type leaf struct {
	first  api.Spot // in the block
	length int
	null   uint64
}

// planOf is that of a form which is seen as another one.
func planOf(f, seen api.Form) *plan {
	m := f.Tokens[0]
	p := &plan{order: f.Order, head: f.Head, schema: uint64(f.Schema), template: uint64(m.ID), first: uint64(m.Since), last: uint64(f.Version)}
	p.fresh, _ = order.New(seen)
	p.message = blockAt(f.Tokens, 0)
	return p
}

// blockAt goes through the tokens by itself: ir's calls would look through the whole form for each part.
func blockAt(tokens []api.Token, place int) *block {
	t := tokens[place]
	b := &block{full: t.Full, fields: map[string]*part{}}
	end := 0
	for i := place + 1; i < t.Pair; i = tokens[i].Pair + 1 {
		inside := tokens[i]
		if inside.Op != api.BeginField {
			b.row = append(b.row, memberAt(tokens, i))
			continue
		}
		end = max(end, inside.Offset+inside.Size)
		b.marks = append(b.marks, mark{since: inside.Since, end: end})
		b.fields[strings.Clone(inside.Name)] = fieldAt(tokens, i)
	}
	return b
}

// memberAt is a group or data.
func memberAt(tokens []api.Token, place int) *part {
	t := tokens[place]
	p := &part{kind: api.CallData, since: t.Since, token: api.Token{Op: t.Op, Size: t.Size, A: t.A, B: t.B}}
	if t.Op == api.BeginGroup {
		p.kind, p.entry = api.CallGroup, blockAt(tokens, place)
	}
	return p
}

func fieldAt(tokens []api.Token, place int) *part {
	t := tokens[place]
	p := &part{kind: api.CallField, since: t.Since}
	for i := place + 1; i < t.Pair; i++ {
		inside := tokens[i]
		if inside.Op != api.Encoding || inside.Presence == api.Constant {
			continue
		}
		l := leaf{first: api.Spot{Prim: inside.Prim, Offset: t.Offset + inside.Offset}, length: inside.Length, null: inside.Null}
		// A set without a value is one without bits, whatever its type's null.
		if tokens[i-1].Op == api.BeginSet {
			l.null = 0
		}
		p.leaves = append(p.leaves, l)
		p.words += l.length
	}
	return p
}

// foreign is why a header isn't one of the form's message.
func (p *plan) foreign(h cursor.Head) api.Errno {
	switch {
	case h.Schema != p.schema:
		return api.ErrSchemaID
	case h.Template != p.template:
		return api.ErrTemplate
	case h.Version < p.first || h.Version > p.last:
		return api.ErrActing
	}
	return api.OK
}

// reach is the greatest end of the fields that live at a version: it is searched for, since a block of many fields may be asked for many groups. (From field to field Since never falls.)
func (b *block) reach(version int) int {
	n := sort.Search(len(b.marks), func(i int) bool { return b.marks[i].since > version })
	if n == 0 {
		return 0
	}
	return b.marks[n-1].end
}

// nulls are the words of a field that isn't there.
func (p *part) nulls() []uint64 {
	words := make([]uint64, 0, p.words)
	for _, l := range p.leaves {
		for range l.length {
			words = append(words, l.null)
		}
	}
	return words
}
