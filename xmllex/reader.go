package xmllex

import (
	"strings"

	"stencil/api"
	"stencil/text"
)

const (
	blanks = "\t\n\r "
	// nameEnds are the bytes that stand in no row of a name.
	nameEnds = blanks + "<>/=\"'&"
)

// state reads one thing and answers the state that reads what follows; behind the text's end there is none.
type state func() state

// fault is what a reader gives up with.
type fault struct {
	err api.Errno
	at  int
}

func giveUp(err api.Errno, at int) { panic(fault{err, at}) }

// reader goes through a text from the left. A state tells at most one piece, and none that isn't whole.
type reader struct {
	s     string
	at    int
	next  state
	last  api.XTok
	whole bool
	fault fault
}

func newReader(s string) *reader {
	r := &reader{s: s}
	r.next = r.begin
	return r
}

// pieces hands the pieces out from here, where nothing is caught: what the one who takes them panics with is not the reader's.
func (r *reader) pieces(yield func(api.XTok) bool) {
	for {
		t, ok := r.piece()
		if !ok || !yield(t) {
			return
		}
	}
}

// piece goes from state to state up to the next piece; there is none behind the last one, or where a state gives up.
func (r *reader) piece() (api.XTok, bool) {
	defer func() {
		if f := recover(); f != nil {
			r.fault = f.(fault)
		}
	}()
	r.whole = false
	for !r.whole && r.next != nil {
		r.next = r.next()
	}
	return r.last, r.whole
}

func (r *reader) tell(t api.XTok) { r.last, r.whole = t, true }

// peek is the byte next to come, where the text must not end.
func (r *reader) peek() byte {
	if r.at == len(r.s) {
		giveUp(api.ErrXMLEnd, r.at)
	}
	return r.s[r.at]
}

func (r *reader) expect(c byte) {
	if r.peek() != c {
		giveUp(api.ErrXML, r.at)
	}
	r.at++
}

// upTo takes the longest row that has none of the bytes of ends.
func (r *reader) upTo(ends string) string {
	row := r.s[r.at:]
	if n := strings.IndexAny(row, ends); n >= 0 {
		row = row[:n]
	}
	r.at += len(row)
	return row
}

// skipBlanks tells whether there were any.
func (r *reader) skipBlanks() bool {
	rest := strings.TrimLeft(r.s[r.at:], blanks)
	skipped := len(r.s) - len(rest) - r.at
	r.at += skipped
	return skipped > 0
}

func (r *reader) name() string {
	at := r.at
	r.peek()
	row := r.upTo(nameEnds)
	if !text.XMLName(row) {
		giveUp(api.ErrXMLName, at)
	}
	// A copy, as of all that is told, so that a piece doesn't keep the whole text in memory.
	return strings.Clone(row)
}

// plain puts in the entities of what stands at a place.
func plain(raw string, at int) string {
	s, err, fault := text.Unescape(raw)
	if err != api.OK {
		giveUp(err, at+fault)
	}
	return s
}
