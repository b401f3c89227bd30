package xmltree

import (
	"stencil/api"
	"stencil/text"
)

// place is what a reader holds of where it stands: the piece that it has come to, and what is wrong there.
type place struct {
	piece api.XTok
	err   api.Errno
}

func (p *place) moveTo(t api.XTok) { p.piece = t }

func (p *place) refuse(err api.Errno) { p.err = err }

func (p *place) refused() bool { return p.err != api.OK }

// opened is an element whose end hasn't come. Its text is gathered here, so that adding to it doesn't copy it each time.
type opened struct {
	elem int
	name string
	text []byte
}

// stack holds the elements that are open, the innermost one last.
type stack struct {
	place
	all []opened
}

func (s *stack) depth() int { return len(s.all) }

func (s *stack) innermost() *opened { return &s.all[len(s.all)-1] }

// push opens the element of the piece here.
func (s *stack) push(elem int) {
	s.all = append(s.all, opened{elem: elem, name: s.piece.Name})
}

func (s *stack) pop() { s.all = s.all[:len(s.all)-1] }

// mustPair refuses the end tag here, if it isn't the innermost element's.
func (s *stack) mustPair() {
	if s.depth() == 0 || s.innermost().name != s.piece.Name {
		s.refuse(api.ErrTreePair)
	}
}

// mustBeEmpty refuses the end here, if an element is open.
func (s *stack) mustBeEmpty() {
	if s.depth() > 0 {
		s.refuse(api.ErrTreePair)
	}
}

// reader takes pieces one by one, and has the elements that began with them.
type reader struct {
	stack
	elems []api.Elem
}

// takeAll stays at the first piece that is refused.
func (r *reader) takeAll(ts []api.XTok) {
	takers := [...]func(){
		api.XOpen:    r.open,
		api.XAttr:    r.attribute,
		api.XEnd:     r.pass,
		api.XEmpty:   r.shut,
		api.XClose:   r.endTag,
		api.XText:    r.text,
		api.XComment: r.pass,
		api.XDecl:    r.pass,
	}
	for _, t := range ts {
		r.moveTo(t)
		takers[t.Kind]()
		if r.refused() {
			return
		}
	}
}

func (r *reader) pass() {}

func (r *reader) open() {
	switch {
	case r.depth() == 0 && len(r.elems) > 0:
		r.refuse(api.ErrTreeRoot)
	case r.depth() == api.MaxDepth:
		r.refuse(api.ErrTreeDepth)
	case len(r.elems) == api.MaxElems:
		r.refuse(api.ErrTreeBig)
	default:
		r.push(len(r.elems))
		r.elems = append(r.elems, api.Elem{Depth: r.depth(), Name: r.piece.Name, At: r.piece.At})
	}
}

func (r *reader) attribute() {
	e := &r.elems[r.innermost().elem]
	switch {
	case hasAttr(e.Attrs, r.piece.Name):
		r.refuse(api.ErrTreeTwice)
	case len(e.Attrs) == api.MaxAttrs:
		r.refuse(api.ErrTreeBig)
	default:
		e.Attrs = append(e.Attrs, api.Attr{Name: r.piece.Name, Value: r.piece.Value, At: r.piece.At})
	}
}

func (r *reader) endTag() {
	r.mustPair()
	if !r.refused() {
		r.shut()
	}
}

func (r *reader) shut() {
	last := r.innermost()
	r.elems[last.elem].Text = string(last.text)
	r.pop()
}

func (r *reader) text() {
	if r.depth() > 0 {
		last := r.innermost()
		last.text = append(last.text, r.piece.Value...)
	} else if !text.Blank(r.piece.Value) {
		r.refuse(api.ErrTreeRoot)
	}
}

// finish tells what is still missing where the text ends.
func (r *reader) finish(end int) {
	if r.refused() {
		return
	}
	r.moveTo(api.XTok{At: end})
	r.mustBeEmpty()
	if len(r.elems) == 0 {
		r.refuse(api.ErrTreeRoot)
	}
}
