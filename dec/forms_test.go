package dec_test

import (
	"slices"
	"strconv"
	"strings"
	"testing"

	"stencil/api"
	"stencil/enc"
	"stencil/ir"
	"stencil/prim"
	"stencil/project"
)

const ok = api.OK

var primNames = []string{"char", "int8", "int16", "int32", "int64", "uint8", "uint16", "uint32", "uint64", "float", "double"}

// counters are the types that numbers of headers, dimensions and lengths have, by their bits.
var counters = map[string]api.Prim{"8": api.Uint8, "16": api.Uint16, "32": api.Uint32}

func spot(p api.Prim, at int) api.Spot { return api.Spot{Prim: p, Offset: at} }

// chapter is the form of the chapter's examples.
const chapter = "a:uint8 b:int16 c@2:uint16 g{8 x:uint8 } d$8 n@2$8"

// sample is the chapter's bytes, written at version 1, and newer those written at 2.
const (
	sample = "\x03\x00\x03\x00\x07\x00\x01\x00\x09\xfe\xff\x01\x00\x01\x04\x02hi"
	newer  = "\x05\x00\x03\x00\x07\x00\x02\x00\x09\xfe\xff\x01\x00\x00\x00\x00\x00\x01x"
)

// maker puts a form's tokens one behind the other.
type maker struct {
	tokens []api.Token
	open   []int // of the messages and groups that are open
	more   []int // of each of them: how much longer than Block its Full is
	ids    int
}

func (k *maker) put(t api.Token) int {
	t.Pair = len(k.tokens)
	k.tokens = append(k.tokens, t)
	return t.Pair
}

// end puts the token that ends the one at a place.
func (k *maker) end(place int) {
	t := k.tokens[place]
	last := k.put(api.Token{Op: t.Op + 1, Name: t.Name})
	k.tokens[place].Pair, k.tokens[last].Pair = last, place
}

func (k *maker) id() int {
	k.ids++
	return k.ids
}

// begin puts a message or a group, finish its end.
func (k *maker) begin(t api.Token) { k.open, k.more = append(k.open, k.put(t)), append(k.more, 0) }

func (k *maker) finish() {
	last := len(k.open) - 1
	t := &k.tokens[k.open[last]]
	t.Full = t.Block + k.more[last]
	k.end(k.open[last])
	k.open, k.more = k.open[:last], k.more[:last]
}

// top is the message or group that is open.
func (k *maker) top() *api.Token { return &k.tokens[k.open[len(k.open)-1]] }

// field puts one behind those of its block; where it is newer than what holds it, it is optional.
func (k *maker) field(name, said string, since int) {
	t := api.Token{Op: api.BeginField, Name: strings.TrimSuffix(name, "?"), ID: k.id(), Since: since}
	if t.Name != name || since > k.top().Since {
		t.Presence = api.Optional
	}
	i := k.put(t)
	if said == "!" {
		k.tokens[i].Presence, k.tokens[i].Const = api.Constant, []uint64{1}
		k.kind("uint8", 0)
	} else if _, size := k.kind(said, 0); size > 0 {
		k.tokens[i].Size, k.tokens[i].Offset = size, k.top().Block
		k.top().Block += size
	}
	k.end(i)
}

// kind puts a type at a place of the field's bytes: what is behind its words, and its end.
func (k *maker) kind(said string, at int) (string, int) {
	switch first, rest := said[0], said[1:]; first {
	case '.':
		return rest, at + 1
	case '(':
		i := k.put(api.Token{Op: api.BeginComposite, Name: "C", Offset: at})
		end := at
		for rest[0] != ')' {
			rest, end = k.kind(strings.TrimPrefix(rest, ","), end)
		}
		k.tokens[i].Size = end - at
		k.end(i)
		return rest[1:], end
	case '<', '[':
		i := k.put(api.Token{Op: map[byte]api.TokenOp{'<': api.BeginEnum, '[': api.BeginSet}[first], Name: "E", Offset: at})
		rest, end := k.encoding(rest, at)
		k.tokens[i].Size = end - at
		k.put(api.Token{Op: api.Choice, Name: "c", Value: 1})
		k.end(i)
		return rest[1:], end
	}
	return k.encoding(said, at)
}

func (k *maker) encoding(said string, at int) (string, int) {
	word, rest := said, ""
	if i := strings.IndexAny(said, ",)>]"); i >= 0 {
		word, rest = said[:i], said[i:]
	}
	plain, null, hasNull := strings.Cut(strings.TrimPrefix(word, "="), "~")
	name, times, isArray := strings.Cut(plain, "*")
	n := 1
	if isArray {
		n = number(times)
	}
	p := api.Prim(slices.Index(primNames, name))
	t := api.Token{Op: api.Encoding, Name: "coding", Offset: at, Prim: p, Length: n, Size: n * prim.Size(p), Null: prim.Null(p), Min: prim.Min(p), Max: prim.Max(p)}
	if hasNull {
		t.Null = uint64(number(null))
	}
	if word[0] == '=' {
		t.Size, t.Presence, t.Const = 0, api.Constant, make([]uint64, n)
	}
	k.put(t)
	return rest, at + t.Size
}

func number(s string) int {
	n, err := strconv.Atoi(s)
	if err != nil {
		panic(err)
	}
	return n
}

// word puts what one word of a form says.
func (k *maker) word(said string) {
	if said == "}" {
		k.finish()
		return
	}
	i := strings.IndexAny(said, ":!{$.+")
	if i < 0 {
		k.top().Since = number(strings.TrimPrefix(said, "@"))
		return
	}
	name, when, isNewer := strings.Cut(said[:i], "@")
	since, rest := k.top().Since, said[i+1:]
	if isNewer {
		since = number(when)
	}
	switch said[i] {
	case ':':
		k.field(name, rest, since)
	case '!':
		k.field(name, "!", since)
	case '.':
		k.top().Block++
	case '+':
		k.more[len(k.more)-1] = number(rest)
	case '{':
		p := counters[rest]
		k.begin(api.Token{Op: api.BeginGroup, Name: name, ID: k.id(), Since: since, Size: 2 + prim.Size(p), A: spot(api.Uint16, 0), B: spot(p, 2)})
	case '$':
		p := counters[rest]
		k.end(k.put(api.Token{Op: api.BeginData, Name: name, ID: k.id(), Since: since, Size: prim.Size(p), A: spot(p, 0), Prim: api.Char}))
	}
}

// made is a form of the message M, of version 2, by words: NAME:TYPE is a field (NAME?:TYPE an optional one), NAME! a constant one, NAME{BITS .. } a group whose entries a number of so many bits counts, NAME$BITS data behind a length of so many, . a byte of the block that no field has, +N how much longer the block was made later. NAME@N says that it came at version N (else it is as old as what holds it), a word @N alone that the message did. A TYPE is a primitive type's name, with *N behind it an array of N, with ~N the null N, with = ahead a constant; <TYPE> an enum, [TYPE] a set, (TYPE,TYPE,..) a composite, in which . is a byte that nobody has.
func made(t testing.TB, said string) api.Form {
	t.Helper()
	f := unchecked(said)
	if e, i := ir.Check(f); e != ok {
		t.Fatalf("%q is no form: %d at %d", said, e, i)
	}
	return f
}

func unchecked(said string) api.Form {
	k := &maker{}
	k.begin(api.Token{Op: api.BeginMessage, Name: "M", ID: 3})
	for _, word := range strings.Fields(said) {
		k.word(word)
	}
	k.finish()
	return api.Form{Order: api.Little, Schema: 7, Version: 2, Tokens: k.tokens,
		Head: api.Head{Size: 8, Block: spot(api.Uint16, 0), Template: spot(api.Uint16, 2), Schema: spot(api.Uint16, 4), Version: spot(api.Uint16, 6)}}
}

// wide is the same form with numbers of 32 bits in its header, and for the block lengths of its groups.
func wide(f api.Form) api.Form {
	f.Head = api.Head{Size: 16, Block: spot(api.Uint32, 0), Template: spot(api.Uint32, 4), Schema: spot(api.Uint32, 8), Version: spot(api.Uint32, 12)}
	f.Tokens = slices.Clone(f.Tokens)
	for i := range f.Tokens {
		if t := &f.Tokens[i]; t.Op == api.BeginGroup {
			t.A, t.B = spot(api.Uint32, 0), spot(t.B.Prim, 4)
			t.Size = 4 + prim.Size(t.B.Prim)
		}
	}
	return f
}

// big is the same form in the other order of bytes.
func big(f api.Form) api.Form {
	f.Order = api.Big
	return f
}

// changed is a form in memory of its own with a token otherwise.
func changed(f api.Form, place int, do func(t *api.Token)) api.Form {
	f.Tokens = slices.Clone(f.Tokens)
	do(&f.Tokens[place])
	return f
}

// placeOf is the first token that begins something of the name.
func placeOf(f api.Form, name string) int {
	return slices.IndexFunc(f.Tokens, func(t api.Token) bool { return t.Name == name })
}

func field(name string) api.Call { return api.Call{Kind: api.CallField, Name: name} }

func group(name string) api.Call { return api.Call{Kind: api.CallGroup, Name: name} }

func next() api.Call { return api.Call{Kind: api.CallNext} }

func data(name string) api.Call { return api.Call{Kind: api.CallData, Name: name} }

// set, count and text are an encoder's calls.
func set(name string, words ...uint64) api.Call {
	return api.Call{Kind: api.CallField, Name: name, Words: words}
}

func count(name string, n int) api.Call {
	return api.Call{Kind: api.CallGroup, Name: name, Count: n}
}

func text(name, s string) api.Call { return api.Call{Kind: api.CallData, Name: name, Text: s} }

// plain are an encoder's calls as a decoder gets them.
func plain(calls []api.Call) []api.Call {
	out := make([]api.Call, 0, len(calls))
	for _, c := range calls {
		out = append(out, api.Call{Kind: c.Kind, Name: c.Name})
	}
	return out
}

// written are the bytes of a message that an encoder makes of calls, at a version; what they don't set is 238.
func written(t testing.TB, f api.Form, version int, calls ...api.Call) []byte {
	t.Helper()
	g, err := project.At(f, version)
	if err != ok {
		t.Fatalf("the form at %d: %v", version, err)
	}
	return encoded(t, g, calls...)
}

// encoded are those of a form as it is.
func encoded(t testing.TB, f api.Form, calls ...api.Call) []byte {
	t.Helper()
	e, err := enc.New(f)
	if err != ok {
		t.Fatalf("enc.New: %v", err)
	}
	b := slices.Repeat([]byte{238}, 1<<17)
	if err := e.Wrap(b, 0); err != ok {
		t.Fatalf("enc.Wrap: %v", err)
	}
	for _, c := range calls {
		if err := e.Do(c); err != ok {
			t.Fatalf("the encoder's %s: %v", short(c), err)
		}
	}
	return slices.Clone(b[:e.End()])
}

// with are bytes some of which, from a place on, are others.
func with(b []byte, at int, others ...byte) []byte {
	b = slices.Clone(b)
	copy(b[at:], others)
	return b
}
