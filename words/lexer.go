package words

import (
	"stencil/api"
	"stencil/text"
)

// pieceKind is what a piece is.
type pieceKind int

const (
	end    pieceKind = iota // none: the text ends there
	sign                    // a bracket, colon, semicolon or comma
	quoted                  // a quoted text
	atom                    // a name or a number
)

// piece is one of those that a text is cut into.
type piece struct {
	kind pieceKind
	at   int    // where it begins
	size int    // how many bytes it takes
	text string // of a quoted text what that means, of all others their bytes
}

func (p piece) isSign(s string) bool { return p.kind == sign && p.text == s }

func (p piece) isNull() bool { return p.kind == atom && p.text == null }

// traits are what a byte is in a text, outside of quotes.
type traits struct {
	isBlank  bool // it is passed over
	isAlone  bool // it takes no byte behind it
	endsAtom bool
}

func traitsOf(c byte) (t traits) {
	switch c {
	case '\t', '\n', '\r', ' ':
		t.isBlank = true
		fallthrough
	case '{', '}', '[', ']', ':', ';', ',':
		t.isAlone = true
		fallthrough
	case '"':
		t.endsAtom = true
	}
	return t
}

// lexer goes through a text, piece by piece. A piece is cut only when it is asked for, since one that can't be is no fault where another one stands ahead of it.
type lexer struct {
	s     string
	at    int   // behind the piece that was taken last
	next  piece // the one behind that
	isCut bool  // whether next is known
}

// peek is the piece that is next; it stays there.
func (l *lexer) peek() piece {
	if !l.isCut {
		l.next, l.isCut = l.cut(), true
	}
	return l.next
}

// take is the piece that is next, and goes on behind it.
func (l *lexer) take() piece {
	p := l.peek()
	l.at, l.isCut = p.at+p.size, false
	return p
}

func (l *lexer) cut() piece {
	p := piece{at: l.at}
	for p.at < len(l.s) && traitsOf(l.s[p.at]).isBlank {
		p.at++
	}
	if p.at == len(l.s) {
		return p
	}
	switch first := traitsOf(l.s[p.at]); {
	case first.isAlone:
		p.kind, p.size = sign, 1
	case first.endsAtom: // and isn't alone: a quotation mark
		return l.unquoted(p)
	default:
		p.kind, p.size = atom, l.atomSize(p.at)
	}
	p.text = l.s[p.at : p.at+p.size]
	return p
}

func (l *lexer) atomSize(at int) int {
	size := 0
	for at+size < len(l.s) && !traitsOf(l.s[at+size]).endsAtom {
		size++
	}
	return size
}

func (l *lexer) unquoted(p piece) piece {
	s, n, err := text.Unquote(l.s[p.at:])
	if err != api.OK {
		fail(err, p.at+n)
	}
	p.kind, p.size, p.text = quoted, n, s
	return p
}

// fail gives up at a fault in the text.
func fail(err api.Errno, at int) { panic(api.Fault{Err: err, At: at}) }

// caught is the fault at which something gives up.
func caught(do func()) (fault api.Fault) {
	defer func() {
		if refused := recover(); refused != nil {
			fault = refused.(api.Fault)
		}
	}()
	do()
	return api.Fault{}
}
