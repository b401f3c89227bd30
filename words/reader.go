package words

import (
	"stencil/api"
	"stencil/number"
)

// said is what a text says of a part.
type said struct {
	part   *part
	words  []uint64 // of a field; none, where it is null
	text   string   // of data
	blocks [][]said // of a group, an entry each
}

// reader goes down a text by the blocks of a form.
type reader struct {
	*plan
	lexer
	by     [5]func(p *part) said // what reads a part of each kind
	blocks int                   // how many have begun
	came   map[*part]int         // of each part which block it has come in last
}

func readerOf(p *plan, s string) *reader {
	r := &reader{plan: p, lexer: lexer{s: s}, came: map[*part]int{}}
	r.by = [...]func(*part) said{
		api.ValField: r.field,
		api.ValGroup: r.group,
		api.ValData:  r.data,
	}
	return r
}

// read is what the whole text says of the message's parts, or the first fault.
func (r *reader) read() (all []said, fault api.Fault) {
	fault = caught(func() {
		all = r.block(r.message)
		r.want(r.peek().kind == end)
	})
	return all, fault
}

// want gives up at the piece that is next, where the grammar wants another one.
func (r *reader) want(stands bool) {
	if !stands {
		fail(api.ErrSyntax, r.peek().at)
	}
}

func (r *reader) sign(s string) {
	r.want(r.peek().isSign(s))
	r.take()
}

func (r *reader) block(b *block) []said {
	r.sign("{")
	r.blocks++
	nth := r.blocks
	var all []said
	for !r.peek().isSign("}") {
		all = append(all, r.item(b, nth))
	}
	r.take()
	return all
}

// item reads one of the nth block's.
func (r *reader) item(b *block, nth int) said {
	name := r.peek()
	p, known := r.part(b, name.text)
	r.want(name.kind == atom && known && r.came[p] != nth)
	r.came[p] = nth
	r.take()
	r.sign(":")
	return r.by[p.kind](p)
}

func (r *reader) field(p *part) said {
	s := said{part: p}
	if r.peek().isNull() {
		r.take()
		r.separator("")
		return s
	}
	for i, l := range p.leaves {
		if i > 0 {
			r.separator(";")
		}
		s.words = r.leaf(l, s.words)
	}
	r.separator("")
	return s
}

func (r *reader) group(p *part) said {
	s := said{part: p}
	r.sign("[")
	for !r.peek().isSign("]") {
		s.blocks = append(s.blocks, r.block(p.entry))
	}
	r.take()
	return s
}

func (r *reader) data(p *part) said {
	r.want(r.peek().kind == quoted)
	return said{part: p, text: r.take().text}
}

// separator takes the sign that must stand ahead of a field's further words. Where none are wanted it is "", and no such sign may stand there.
func (r *reader) separator(sign string) {
	p := r.peek()
	switch {
	case sign != "" && p.isSign(sign):
		r.take()
	case sign != "" || p.isSign(",") || p.isSign(";"):
		fail(api.ErrWords, p.at)
	}
}

// leaf puts the words of one behind others.
func (r *reader) leaf(l leaf, words []uint64) []uint64 {
	if l.prim == api.Char {
		return r.chars(l, words)
	}
	for i := range l.length {
		if i > 0 {
			r.separator(",")
		}
		words = append(words, r.element(l))
	}
	return words
}

func (r *reader) chars(l leaf, words []uint64) []uint64 {
	if w, known := r.choice(l); known {
		return append(words, w)
	}
	r.want(r.peek().kind == quoted)
	p := r.take()
	if len(p.text) != l.length {
		fail(api.ErrWords, p.at)
	}
	for i := range len(p.text) {
		words = append(words, uint64(p.text[i]))
	}
	return words
}

func (r *reader) element(l leaf) uint64 {
	if w, known := r.choice(l); known {
		return w
	}
	r.want(r.peek().kind == atom)
	p := r.take()
	w, err, at := number.Parse(l.prim, p.text)
	if err != api.OK {
		fail(err, p.at+at)
	}
	return w
}

// choice takes the name of one of a leaf's, if it is next.
func (r *reader) choice(l leaf) (uint64, bool) {
	p := r.peek()
	w, known := r.valueOf(l, p.text)
	if p.kind != atom || !known {
		return 0, false
	}
	r.take()
	return w, true
}
