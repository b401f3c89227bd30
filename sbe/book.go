package sbe

import (
	"slices"
	"strings"

	"stencil/api"
	"stencil/cursor"
	"stencil/ir"
	"stencil/schema"
	"stencil/types"
)

// A field has all that its type has in its own tokens again, so the forms of a short text may be more than any memory holds: beyond this many tokens none is kept, and each is compiled when it is asked for.
const mostTokens = 1 << 18

// book is a schema and the forms of its messages, by their places in Parts.
type book struct {
	schema api.Schema
	forms  map[int]api.Form
}

func bookOf(s api.Schema) book {
	b := book{schema: s, forms: map[int]api.Form{}}
	if !isCompact(s) {
		return b
	}
	forms, _ := ir.All(s)
	for i, p := range s.Parts {
		if p.Kind == api.PartMessage {
			b.forms[i], forms = forms[0], forms[1:]
		}
	}
	return b
}

// isCompact tells whether the forms of a schema's messages have at most mostTokens tokens together; it stops counting where they have more.
func isCompact(s api.Schema) bool {
	left := mostTokens
	for _, p := range s.Parts {
		left -= 2
		if p.Kind == api.PartField {
			left -= tokensOf(s.Types, p.Type, left)
		}
		if left < 0 {
			return false
		}
	}
	return true
}

// tokensOf is at least the number of tokens of the type at a place, or some number above the most.
func tokensOf(ts []api.TypeNode, at, most int) int {
	n := 0
	for i := at; n <= most && i < len(ts) && (i == at || ts[i].Depth > ts[at].Depth); i++ {
		n += 3 + len(ts[i].Values)
	}
	return n
}

// form is that of the message at a place in Parts.
func (b *book) form(message int) api.Form {
	if f, kept := b.forms[message]; kept {
		return f
	}
	f, _ := ir.Compile(b.schema, message)
	return f
}

// begun is the place in Parts of the message that the header tells with which bytes begin.
func (b *book) begun(bytes []byte) (int, api.Errno) {
	head, _ := types.HeadOf(b.schema.Types, b.schema.Header)
	c, err := cursor.New(bytes, 0, b.schema.Order)
	if err != api.OK {
		return -1, err
	}
	h, err := c.GetHead(head)
	if err != api.OK {
		return -1, err
	}
	if h.Schema != uint64(b.schema.ID) {
		return -1, api.ErrSchemaID
	}
	message := schema.ByID(b.schema, int(h.Template))
	if message < 0 {
		return -1, api.ErrMessage
	}
	return message, api.OK
}

func copied(s api.Schema) api.Schema {
	s.Package = strings.Clone(s.Package)
	s.Types = slices.Clone(s.Types)
	for i := range s.Types {
		t := &s.Types[i]
		t.Name, t.Const, t.Values = strings.Clone(t.Name), slices.Clone(t.Const), slices.Clone(t.Values)
		for k := range t.Values {
			t.Values[k].Name = strings.Clone(t.Values[k].Name)
		}
	}
	s.Parts = slices.Clone(s.Parts)
	for i := range s.Parts {
		p := &s.Parts[i]
		p.Name, p.Const = strings.Clone(p.Name), slices.Clone(p.Const)
	}
	return s
}
