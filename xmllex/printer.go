package xmllex

import (
	"strings"

	"stencil/api"
	"stencil/text"
)

// shape is what a piece of a Kind has, and whether it stands in a start tag.
type shape struct{ named, valued, inTag bool }

var shapes = [...]shape{
	api.XOpen:    {named: true},
	api.XAttr:    {named: true, valued: true, inTag: true},
	api.XEnd:     {inTag: true},
	api.XEmpty:   {inTag: true},
	api.XClose:   {named: true},
	api.XText:    {valued: true},
	api.XComment: {valued: true},
	api.XDecl:    {valued: true},
}

// noKind is the Kind of what stands ahead of the first piece.
const noKind api.XKind = -1

// printer writes pieces one behind the other. What it has written it stops adding to beyond MaxInput: the text is refused then, but the pieces that follow are checked first.
type printer struct {
	out  []byte
	last api.XKind
}

func newPrinter() *printer { return &printer{last: noKind} }

func (p *printer) inTag() bool { return p.last == api.XOpen || p.last == api.XAttr }

func (p *printer) put(t api.XTok) api.Errno {
	if !p.canFollow(t) {
		return api.ErrXML
	}
	if err := check(t); err != api.OK {
		return err
	}
	if len(p.out) <= api.MaxInput {
		p.out = append(p.out, written(t)...)
	}
	p.last = t.Kind
	return api.OK
}

// canFollow tells whether a piece has no field that isn't its Kind's, and may stand behind the last one.
func (p *printer) canFollow(t api.XTok) bool {
	if t.Kind < 0 || int(t.Kind) >= len(shapes) {
		return false
	}
	s := shapes[t.Kind]
	if t.Name != "" && !s.named || t.Value != "" && !s.valued || s.inTag != p.inTag() {
		return false
	}
	switch t.Kind {
	case api.XDecl:
		return p.last == noKind
	case api.XText:
		return t.Value != "" && p.last != api.XText
	}
	return true
}

// check tells what is wrong with the Name and the Value of a piece, wherever it stands.
func check(t api.XTok) api.Errno {
	if shapes[t.Kind].named && !text.XMLName(t.Name) {
		return api.ErrXMLName
	}
	if err, _ := text.Chars(t.Value); err != api.OK {
		return err
	}
	switch {
	case t.Kind == api.XComment && !isComment(t.Value):
		return api.ErrXMLComment
	case t.Kind == api.XDecl && !isDeclaration(t.Value):
		return api.ErrXMLDecl
	}
	return api.OK
}

func isComment(s string) bool { return !strings.Contains(s, "--") && !strings.HasSuffix(s, "-") }

func isDeclaration(s string) bool {
	whole := declOpen + s + declShut
	return declSize(whole) == len(whole)
}

func written(t api.XTok) string {
	switch t.Kind {
	case api.XOpen:
		return "<" + t.Name
	case api.XAttr:
		return " " + t.Name + "=\"" + text.Escape(t.Value, true) + "\""
	case api.XEnd:
		return ">"
	case api.XEmpty:
		return "/>"
	case api.XClose:
		return "</" + t.Name + ">"
	case api.XText:
		return text.Escape(t.Value, false)
	case api.XComment:
		return "<!--" + t.Value + "-->"
	}
	return declOpen + t.Value + declShut
}
