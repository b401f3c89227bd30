package ir

import (
	"strings"

	"stencil/api"
)

// list is the tokens of a message so far, with a stack of the places of those that begin something and aren't ended.
type list struct {
	stack[int]
	tokens []api.Token
}

// put puts a token behind the others, as its own pair. What it has of the schema is copied.
func (l *list) put(t api.Token) {
	t.Name, t.Const, t.Pair = strings.Clone(t.Name), append([]uint64(nil), t.Const...), len(l.tokens)
	l.tokens = append(l.tokens, t)
}

func (l *list) begin(t api.Token) {
	l.push(len(l.tokens))
	l.put(t)
}

// end ends what was begun last, and makes the two tokens a pair.
func (l *list) end() {
	begun := l.pop()
	t := l.tokens[begun]
	l.tokens[begun].Pair = len(l.tokens)
	l.put(api.Token{Op: endOf(t.Op), Name: t.Name})
	l.tokens[len(l.tokens)-1].Pair = begun
}

// endOf is the Op that ends what one begins: the next, in api's order.
func endOf(begin api.TokenOp) api.TokenOp { return begin + 1 }

func begins(op api.TokenOp) bool { return op < api.Encoding && op%2 == 0 }

func ends(op api.TokenOp) bool { return op < api.Encoding && op%2 == 1 }
