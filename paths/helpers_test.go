package paths_test

import (
	"fmt"
	"slices"
	"strconv"
	"strings"
	"testing"

	"stencil/api"
	"stencil/ir"
	"stencil/paths"
	"stencil/prim"
)

const ok = api.OK

func spot(p api.Prim, offset int) api.Spot { return api.Spot{Prim: p, Offset: offset} }

// coding is the Encoding of one value of a primitive type.
func coding(name string, p api.Prim, offset int) api.Token {
	return api.Token{Op: api.Encoding, Name: name, Offset: offset, Size: prim.Size(p), Prim: p, Length: 1, Null: prim.Null(p), Min: prim.Min(p), Max: prim.Max(p)}
}

// fixed is a coding that takes no bytes.
func fixed(name string, p api.Prim, offset int, words ...uint64) api.Token {
	t := coding(name, p, offset)
	t.Size, t.Length, t.Presence, t.Const = 0, len(words), api.Constant, words
	return t
}

// around are tokens with the one that begins them, and the one that ends them.
func around(t api.Token, inside ...[]api.Token) []api.Token {
	return slices.Concat([]api.Token{t}, slices.Concat(inside...), []api.Token{{Op: t.Op + 1, Name: t.Name}})
}

// paired sets the Pairs of tokens by what is begun and ended.
func paired(tokens ...api.Token) []api.Token {
	tokens = slices.Clone(tokens)
	var open []int
	for i := range tokens {
		t := &tokens[i]
		t.Pair = i
		if t.Op >= api.Encoding || t.Op < 0 {
			continue
		}
		if t.Op%2 == 0 {
			open = append(open, i)
		} else if n := len(open) - 1; n >= 0 {
			t.Pair, tokens[open[n]].Pair, open = open[n], i, open[:n]
		}
	}
	return tokens
}

// maker makes a form of words.
type maker struct {
	tokens []api.Token
	open   []int
	id     int
}

func (k *maker) top() *api.Token { return &k.tokens[k.open[len(k.open)-1]] }

// field puts a field of a type behind those of its block.
func (k *maker) field(name string, held ...api.Token) {
	t := api.Token{Op: api.BeginField, Name: name, ID: k.id, Size: held[0].Size}
	if t.Size > 0 {
		t.Offset = k.top().Block
		k.top().Block += t.Size
		k.top().Full = k.top().Block
	}
	k.tokens = append(k.tokens, around(t, held)...)
}

// constant puts one that takes no bytes whatever its type is.
func (k *maker) constant(name string, held ...api.Token) {
	k.tokens = append(k.tokens, around(api.Token{Op: api.BeginField, Name: name, ID: k.id, Presence: api.Constant, Const: []uint64{1}}, held)...)
}

func (k *maker) begin(t api.Token) {
	k.open = append(k.open, len(k.tokens))
	k.tokens = append(k.tokens, t)
}

func (k *maker) end() {
	t := *k.top()
	k.open = k.open[:len(k.open)-1]
	k.tokens = append(k.tokens, api.Token{Op: t.Op + 1, Name: t.Name})
}

func composite(size int, held ...api.Token) []api.Token {
	return around(api.Token{Op: api.BeginComposite, Name: "C", Size: size}, held)
}

// put puts what a word says: a name alone is a field of uint8, one with ( [ or { behind it a group whose dimension counts by uint8, uint16 or uint32, up to a word ; and one with $ data. A field that no call names has ! (constant), = (constant, of a type that takes bytes), ? (a composite of constants), ~ (a composite whose bytes no member takes) or % (an enum that takes none); one with + has its one leaf deep inside, with | its type is a set, with # an array of which each element may be null.
func (k *maker) put(word string) {
	if word != ";" {
		k.id++
	}
	name, kind := word[:len(word)-1], word[len(word)-1:]
	u8, q := coding("uint8", api.Uint8, 0), fixed("q", api.Uint16, 0, 1, 2)
	switch kind {
	case ";":
		k.end()
	case "(", "[", "{":
		b := api.Uint8 + api.Prim(strings.Index("([{", kind))
		k.begin(api.Token{Op: api.BeginGroup, Name: name, ID: k.id, Size: 7, A: spot(api.Uint16, 5), B: spot(b, 1)})
	case "$":
		k.tokens = append(k.tokens, around(api.Token{Op: api.BeginData, Name: name, ID: k.id, Size: 2, A: spot(api.Uint16, 0), Prim: api.Uint8})...)
	case "!":
		k.constant(name, fixed("uint8", api.Uint8, 0, 1))
	case "=":
		k.constant(name, around(api.Token{Op: api.BeginEnum, Name: "E", Size: 1}, []api.Token{u8, {Op: api.Choice, Name: "A", Value: 1}})...)
	case "?":
		k.field(name, composite(0, q)...)
	case "~":
		k.field(name, composite(3, slices.Concat([]api.Token{q}, composite(2, q), composite(0))...)...)
	case "%":
		k.field(name, around(api.Token{Op: api.BeginEnum, Name: "E", Presence: api.Constant}, []api.Token{fixed("uint8", api.Uint8, 0, 1)})...)
	case "+":
		k.field(name, composite(4, slices.Concat([]api.Token{q}, composite(3, append(composite(0, q), coding("leaf", api.Uint16, 0))...))...)...)
	case "|":
		k.field(name, around(api.Token{Op: api.BeginSet, Name: "S", Size: 1}, []api.Token{u8, {Op: api.Choice, Name: "A", Value: 7}})...)
	case "#":
		t := coding("some", api.Int32, 0)
		t.Size, t.Length, t.Presence = 12, 3, api.Optional
		k.field(name, t)
	default:
		k.field(word, u8)
	}
}

// made is a form of words, as put says.
func made(t testing.TB, words string) api.Form {
	t.Helper()
	k := &maker{id: 9}
	k.begin(api.Token{Op: api.BeginMessage, Name: "M", ID: 3})
	for _, word := range strings.Fields(words) {
		k.put(word)
	}
	k.end()
	f := api.Form{Order: api.Big, Schema: 9, Version: 1, Tokens: paired(k.tokens...),
		Head: api.Head{Size: 17, Block: spot(api.Uint32, 0), Template: spot(api.Uint32, 4), Schema: spot(api.Uint32, 8), Version: spot(api.Uint32, 13)}}
	if e, i := ir.Check(f); e != ok {
		t.Fatalf("%.200s: no form: %d, %d", words, e, i)
	}
	return f
}

func field(name string) api.Call             { return api.Call{Kind: api.CallField, Name: name} }
func group(name string, n int) api.Call      { return api.Call{Kind: api.CallGroup, Name: name, Count: n} }
func data(name string) api.Call              { return api.Call{Kind: api.CallData, Name: name} }
func next() api.Call                         { return api.Call{Kind: api.CallNext} }
func kind(k api.CallKind, s string) api.Call { return api.Call{Kind: k, Name: s} }

// call is one by a word: a name alone a field's, with = and a count a group's, with $ data's; > is the next entry.
func call(word string) api.Call {
	name, count, ok := strings.Cut(word, "=")
	switch {
	case ok:
		n, err := strconv.Atoi(count)
		if err != nil {
			panic(err)
		}
		return group(name, n)
	case word == ">":
		return next()
	case strings.HasSuffix(word, "$"):
		return data(word[:len(word)-1])
	}
	return field(word)
}

func calls(words string) []api.Call {
	var out []api.Call
	for _, word := range strings.Fields(words) {
		out = append(out, call(word))
	}
	return out
}

// say tells calls by their words; what they shouldn't have is told too.
func say(cs []api.Call) string {
	var out []string
	for _, c := range cs {
		word := c.Name
		switch c.Kind {
		case api.CallGroup:
			word += "=" + strconv.Itoa(c.Count)
		case api.CallNext:
			word = ">"
		case api.CallData:
			word += "$"
		}
		if c.Kind < 0 || c.Kind > api.CallData || c.Kind != api.CallGroup && c.Count != 0 || c.Kind == api.CallNext && c.Name != "" || len(c.Words) > 0 || c.Text != "" {
			word = fmt.Sprintf("%+v", c)
		}
		out = append(out, word)
	}
	return strings.Join(out, " ")
}

// list is a form as lines, for faults to be seen.
func list(f api.Form) string {
	lines, e := ir.Show(f)
	return fmt.Sprint(e, "\n", strings.Join(lines, "\n"))
}

// The form of the chapter's examples.
const chapter = "a k! g( x e$ ; d$"

func wantAccepts(t *testing.T, f api.Form, cs []api.Call, want api.Errno, at int) {
	t.Helper()
	if e, i := paths.Accepts(f, cs); e != want || i != at {
		t.Errorf("P15.1: Accepts of %.300s = %d, %d; want %d, %d", say(cs), e, i, want, at)
	}
}

func wantNext(t *testing.T, f api.Form, cs []api.Call, want string) {
	t.Helper()
	if got, e := paths.Next(f, cs); e != ok || say(got) != want {
		t.Errorf("P15.2: Next of %.300s = %.300s, %d; want %.300s", say(cs), say(got), e, want)
	}
}

func wantShortest(t *testing.T, f api.Form, cs []api.Call, want string) {
	t.Helper()
	if got, e := paths.Shortest(f, cs); e != ok || say(got) != want {
		t.Errorf("P15.3: Shortest of %.300s = %.300s, %d; want %.300s", say(cs), say(got), e, want)
	}
}

func wantCount(t *testing.T, f api.Form, cs []api.Call, n, most, want int) {
	t.Helper()
	if got, e := paths.Count(f, cs, n, most); e != ok || got != want {
		t.Errorf("P15.4: Count of %.300s, %d, %d = %d, %d; want %d", say(cs), n, most, got, e, want)
	}
}

// wantWord asks for the error of calls that aren't taken.
func wantWord(t *testing.T, f api.Form, cs []api.Call) {
	t.Helper()
	if got, e := paths.Next(f, cs); e != api.ErrWord || len(got) != 0 {
		t.Errorf("P15.2: Next of %.300s = %v, %d", say(cs), got, e)
	}
	if got, e := paths.Shortest(f, cs); e != api.ErrWord || len(got) != 0 {
		t.Errorf("P15.3: Shortest of %.300s = %v, %d", say(cs), got, e)
	}
	for _, n := range []int{0, 1, 12} {
		if got, e := paths.Count(f, cs, n, n%4); e != api.ErrWord || got != 0 {
			t.Errorf("P15.4: Count of %.300s = %d, %d", say(cs), got, e)
		}
	}
}

// walked are all lists of a walk, a line each.
func walked(f api.Form, most int) []string {
	var out []string
	for cs := range paths.Walk(f, most) {
		out = append(out, say(cs))
	}
	return out
}

func wantWalk(t *testing.T, f api.Form, most int, want ...string) {
	t.Helper()
	if got := walked(f, most); !slices.Equal(got, want) {
		t.Errorf("P15.5: Walk of %d:\n%s\nwant\n%s", most, strings.Join(got, "\n"), strings.Join(want, "\n"))
	}
}
