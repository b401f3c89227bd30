package ir

import (
	"stencil/api"
	"stencil/text"
)

// scope is what a token has begun, and what was met right inside it so far.
type scope struct {
	*api.Token
	place  int
	count  int         // of all that was met
	last   api.TokenOp // of a message or group: that of the part ahead
	field  int         // of these: the Since of the field ahead; their own, ahead of the first
	row    int         // likewise of the group or data ahead
	end    int         // the end of all that takes bytes; the beginning, ahead of it
	coding api.Prim    // of an enum or set: the type of its Encoding
}

// named and valued are what may stand once in what begins at a place.
type named struct {
	in   int
	name string
}

type valued struct {
	in    int
	value uint64
}

// checker goes over the tokens of a form, with a stack of what is open.
type checker struct {
	stack[scope]
	form   *api.Form
	place  int
	rules  []func(t *api.Token) bool // by Op: whether what a token has is right; those that end something have nothing
	depths [api.Choice + 1]int       // by Op: how many that it begins are open
	ids    map[int]int               // of the parts ahead; their places
	names  map[named]int
	values map[valued]int
	whole  bool // the message is ended
}

// check is the first fault of a form; none has the error OK.
func check(f api.Form) api.Fault {
	if !isHeaded(&f) {
		return api.Fault{Err: api.ErrTokens, At: -1}
	}
	c := newChecker(&f)
	for ; c.place < len(f.Tokens); c.place++ {
		t := &f.Tokens[c.place]
		if !c.takes(t) {
			return api.Fault{Err: api.ErrTokens, At: c.place}
		}
		c.pass(t)
	}
	if !c.whole {
		return api.Fault{Err: api.ErrTokens, At: len(f.Tokens)}
	}
	return api.Fault{}
}

func newChecker(f *api.Form) *checker {
	c := &checker{form: f, ids: map[int]int{}, names: map[named]int{}, values: map[valued]int{}}
	c.rules = []func(*api.Token) bool{
		api.BeginMessage:   c.isMessage,
		api.BeginField:     c.isField,
		api.BeginGroup:     c.isGroup,
		api.BeginData:      c.isData,
		api.BeginComposite: c.isComposite,
		api.BeginEnum:      c.isPlaced,
		api.BeginSet:       c.isPlaced,
		api.Encoding:       c.isEncoding,
		api.Choice:         c.isChoice,
	}
	return c
}

// takes tells whether nothing is wrong with the token that is next. The rules come last: they build on what is asked ahead, and keep what they meet.
func (c *checker) takes(t *api.Token) bool {
	return c.mayStand(t.Op) && !hasMore(t) && text.Symbol(t.Name) && c.isPaired(t) && (ends(t.Op) || c.rules[t.Op](t))
}

// mayStand tells whether a token of that Op may be next.
func (c *checker) mayStand(op api.TokenOp) bool {
	if c.isEmpty() {
		return op == api.BeginMessage && !c.whole
	}
	in := c.top()
	isEnd := op == endOf(in.Op)
	switch in.Op {
	case api.BeginMessage, api.BeginGroup:
		return isEnd || isPart(op) && op >= in.last // api has fields, groups and data in the order in which they stand
	case api.BeginField:
		return in.count == 0 && isType(op) || in.count == 1 && isEnd
	case api.BeginEnum, api.BeginSet:
		return in.count == 0 && op == api.Encoding || in.count > 0 && (op == api.Choice || isEnd)
	case api.BeginComposite:
		return isType(op) || isEnd
	}
	return isEnd
}

func isPart(op api.TokenOp) bool {
	return op == api.BeginField || op == api.BeginGroup || op == api.BeginData
}

func isType(op api.TokenOp) bool {
	return op == api.Encoding || op == api.BeginEnum || op == api.BeginSet || op == api.BeginComposite
}

func (c *checker) isPaired(t *api.Token) bool {
	switch {
	case begins(t.Op):
		return isBetween(t.Pair, c.place+1, len(c.form.Tokens)-1) && c.isEndedBy(t, &c.form.Tokens[t.Pair])
	case ends(t.Op):
		return t.Pair == c.top().place && c.top().Pair == c.place
	}
	return t.Pair == c.place
}

// isEndedBy tells of the token that is next whether a later one ends what it begins.
func (c *checker) isEndedBy(t, later *api.Token) bool {
	return later.Op == endOf(t.Op) && later.Name == t.Name && later.Pair == c.place
}

// pass goes on behind a token with which nothing is wrong.
func (c *checker) pass(t *api.Token) {
	switch {
	case ends(t.Op):
		c.depths[c.pop().Op]--
		c.whole = c.isEmpty()
		return
	case !c.isEmpty():
		c.top().count++
		c.top().last = t.Op
	}
	if begins(t.Op) {
		c.depths[t.Op]++
		c.push(scope{Token: t, place: c.place, field: t.Since, row: t.Since, end: t.Offset})
	}
}
