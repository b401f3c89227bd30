package decl

import (
	"slices"

	"stencil/api"
	"stencil/text"
)

// reader goes through the elements of a tree in order; latest has by Depth the Kind of the last one that was read there, so that of those one less deep the last is what holds the next.
type reader struct {
	attributes [api.DeclData + 1][]attribute
	latest     [api.MaxDepth + 1]api.DeclKind
}

func newReader() *reader {
	r := &reader{attributes: attributesByKind()}
	r.latest[0] = noKind
	return r
}

func (r *reader) read(e api.Elem) api.Decl {
	kind := kindOf(e.Name)
	if !mayStandIn(kind, r.latest[e.Depth-1]) {
		giveUp(api.ErrDeclName, e.At)
	}
	r.latest[e.Depth] = kind
	d := draft{Decl: bare(kind)}
	d.Depth, d.At = e.Depth, e.At
	d.readAttributes(e.Attrs, r.attributes[kind])
	if misses(e.Attrs, r.attributes[kind]) {
		giveUp(api.ErrDeclMiss, e.At)
	}
	if !d.fitsText(e.Text) {
		giveUp(api.ErrDeclText, e.At)
	}
	if saysByText(kind) {
		d.Value = text.Trim(e.Text)
	}
	return d.Decl
}

func (d *draft) readAttributes(as []api.Attr, known []attribute) {
	for _, a := range as {
		if passedOver(d.Kind, a.Name) {
			continue
		}
		n := slices.IndexFunc(known, func(k attribute) bool { return k.name == a.Name })
		if n < 0 {
			giveUp(api.ErrDeclAttr, a.At)
		}
		d.place = a.At
		known[n].read(d, a.Value)
	}
}

// misses tells whether an attribute that must be there isn't.
func misses(as []api.Attr, known []attribute) bool {
	return slices.ContainsFunc(known, func(k attribute) bool {
		return k.must && !slices.ContainsFunc(as, func(a api.Attr) bool { return a.Name == k.name })
	})
}

// fitsText tells whether a text may stand in the element, whose attributes have been read.
func (d *draft) fitsText(s string) bool {
	switch d.Kind {
	case api.DeclValid, api.DeclChoice:
		return !text.Blank(s)
	case api.DeclType:
		return d.Presence == api.Constant || text.Blank(s)
	}
	return text.Blank(s)
}
