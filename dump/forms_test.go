package dump_test

import (
	"slices"
	"strconv"
	"strings"
	"testing"

	"stencil/api"
	"stencil/ir"
	"stencil/prim"
	"stencil/project"
)

const ok = api.OK

var primNames = []string{"char", "int8", "int16", "int32", "int64", "uint8", "uint16", "uint32", "uint64", "float", "double"}

// counters are the types that numbers of headers, dimensions and lengths have, by their bits.
var counters = map[string]api.Prim{"8": api.Uint8, "16": api.Uint16, "32": api.Uint32}

func spot(p api.Prim, at int) api.Spot { return api.Spot{Prim: p, Offset: at} }

// chapter is the form of the chapter's examples.
const chapter = "a:uint8 b:int16 c@2:uint16 g{8 x:uint8 } d$8 n@2$8"

// sample is the chapter's bytes, written at version 1, and newer those of the same at 2.
const (
	sample = "\x03\x00\x03\x00\x07\x00\x01\x00\x09\xfe\xff\x01\x00\x01\x04\x02hi"
	newer  = "\x05\x00\x03\x00\x07\x00\x02\x00\x09\xfe\xff\x01\x00\x01\x00\x01\x04\x02hi\x01x"
)

// maker puts a form's tokens one behind the other.
type maker struct {
	tokens []api.Token
	open   []int // of the messages and groups that are open
	more   []int // of each of them: how much longer than Block its Full is
	ids    int
}

func (k *maker) put(t api.Token) int {
	t.Pair = len(k.tokens)
	k.tokens = append(k.tokens, t)
	return t.Pair
}

// end puts the token that ends the one at a place.
func (k *maker) end(place int) {
	t := k.tokens[place]
	last := k.put(api.Token{Op: t.Op + 1, Name: t.Name})
	k.tokens[place].Pair, k.tokens[last].Pair = last, place
}

func (k *maker) id() int {
	k.ids++
	return k.ids
}

// begin puts a message or a group, finish its end.
func (k *maker) begin(t api.Token) { k.open, k.more = append(k.open, k.put(t)), append(k.more, 0) }

func (k *maker) finish() {
	last := len(k.open) - 1
	t := &k.tokens[k.open[last]]
	t.Full = t.Block + k.more[last]
	k.end(k.open[last])
	k.open, k.more = k.open[:last], k.more[:last]
}

// top is the message or group that is open.
func (k *maker) top() *api.Token { return &k.tokens[k.open[len(k.open)-1]] }

// field puts one behind those of its block; where it is newer than what holds it, it is optional.
func (k *maker) field(name, said string, since int) {
	t := api.Token{Op: api.BeginField, Name: strings.TrimSuffix(name, "?"), ID: k.id(), Since: since}
	if t.Name != name || since > k.top().Since {
		t.Presence = api.Optional
	}
	i := k.put(t)
	if said == "!" {
		k.tokens[i].Presence, k.tokens[i].Const = api.Constant, []uint64{1}
		k.kind("uint8", 0)
	} else if _, size := k.kind(said, 0); size > 0 {
		k.tokens[i].Size, k.tokens[i].Offset = size, k.top().Block
		k.top().Block += size
	}
	k.end(i)
}

// kind puts a type at a place of the field's bytes: what is behind its words, and its end.
func (k *maker) kind(said string, at int) (string, int) {
	switch first, rest := said[0], said[1:]; first {
	case '.':
		return rest, at + 1
	case '(':
		i := k.put(api.Token{Op: api.BeginComposite, Name: "C", Offset: at})
		end := at
		for rest[0] != ')' {
			rest, end = k.kind(strings.TrimPrefix(rest, ","), end)
		}
		k.tokens[i].Size = end - at
		k.end(i)
		return rest[1:], end
	case '<', '[':
		i := k.put(api.Token{Op: map[byte]api.TokenOp{'<': api.BeginEnum, '[': api.BeginSet}[first], Name: "E", Offset: at})
		rest, end := k.encoding(rest, at)
		k.tokens[i].Size = end - at
		k.put(api.Token{Op: api.Choice, Name: "c", Value: 1})
		k.end(i)
		return rest[1:], end
	}
	return k.encoding(said, at)
}

func (k *maker) encoding(said string, at int) (string, int) {
	word, rest := said, ""
	if i := strings.IndexAny(said, ",)>]"); i >= 0 {
		word, rest = said[:i], said[i:]
	}
	plain, null, hasNull := strings.Cut(strings.TrimPrefix(word, "="), "~")
	name, times, isArray := strings.Cut(plain, "*")
	n := 1
	if isArray {
		n = number(times)
	}
	p := api.Prim(slices.Index(primNames, name))
	t := api.Token{Op: api.Encoding, Name: "coding", Offset: at, Prim: p, Length: n, Size: n * prim.Size(p), Null: prim.Null(p), Min: prim.Min(p), Max: prim.Max(p)}
	if hasNull {
		t.Null = uint64(number(null))
	}
	if word[0] == '=' {
		t.Size, t.Presence, t.Const = 0, api.Constant, make([]uint64, n)
	}
	k.put(t)
	return rest, at + t.Size
}

func number(s string) int {
	n, err := strconv.Atoi(s)
	if err != nil {
		panic(err)
	}
	return n
}

// word puts what one word of a form says.
func (k *maker) word(said string) {
	if said == "}" {
		k.finish()
		return
	}
	i := strings.IndexAny(said, ":!{$.+")
	if i < 0 {
		k.top().Since = number(strings.TrimPrefix(said, "@"))
		return
	}
	name, when, isNewer := strings.Cut(said[:i], "@")
	since, rest := k.top().Since, said[i+1:]
	if isNewer {
		since = number(when)
	}
	switch said[i] {
	case ':':
		k.field(name, rest, since)
	case '!':
		k.field(name, "!", since)
	case '.':
		k.top().Block++
	case '+':
		k.more[len(k.more)-1] = number(rest)
	case '{':
		p := counters[rest]
		k.begin(api.Token{Op: api.BeginGroup, Name: name, ID: k.id(), Since: since, Size: 2 + prim.Size(p), A: spot(api.Uint16, 0), B: spot(p, 2)})
	case '$':
		p := counters[rest]
		k.end(k.put(api.Token{Op: api.BeginData, Name: name, ID: k.id(), Since: since, Size: prim.Size(p), A: spot(p, 0), Prim: api.Char}))
	}
}

// made is a form of the message M, of version 2, by words: NAME:TYPE is a field (NAME?:TYPE an optional one), NAME! a constant one, NAME{BITS .. } a group whose entries a number of so many bits counts, NAME$BITS data behind a length of so many, . a byte of the block that no field has, +N how much longer the block was made later. NAME@N says that it came at version N (else it is as old as what holds it), a word @N alone that the message did. A TYPE is a primitive type's name, with *N behind it an array of N, with ~N the null N, with = ahead a constant; <TYPE> an enum, [TYPE] a set, (TYPE,TYPE,..) a composite, in which . is a byte that nobody has.
func made(t testing.TB, said string) api.Form {
	t.Helper()
	f := unchecked(said)
	if e, i := ir.Check(f); e != ok {
		t.Fatalf("%q is no form: %d at %d", said, e, i)
	}
	return f
}

func unchecked(said string) api.Form {
	k := &maker{}
	k.begin(api.Token{Op: api.BeginMessage, Name: "M", ID: 3})
	for _, word := range strings.Fields(said) {
		k.word(word)
	}
	k.finish()
	return api.Form{Order: api.Little, Schema: 7, Version: 2, Tokens: k.tokens,
		Head: api.Head{Size: 8, Block: spot(api.Uint16, 0), Template: spot(api.Uint16, 2), Schema: spot(api.Uint16, 4), Version: spot(api.Uint16, 6)}}
}

// wide is the same form with numbers of 32 bits in its header, and for the block lengths of its groups.
func wide(f api.Form) api.Form {
	f.Head = api.Head{Size: 16, Block: spot(api.Uint32, 0), Template: spot(api.Uint32, 4), Schema: spot(api.Uint32, 8), Version: spot(api.Uint32, 12)}
	f.Tokens = slices.Clone(f.Tokens)
	for i := range f.Tokens {
		if t := &f.Tokens[i]; t.Op == api.BeginGroup {
			t.A, t.B = spot(api.Uint32, 0), spot(t.B.Prim, 4)
			t.Size = 4 + prim.Size(t.B.Prim)
		}
	}
	return f
}

// big is the same form in the other order of bytes.
func big(f api.Form) api.Form {
	f.Order = api.Big
	return f
}

// changed is a form in memory of its own with a token otherwise.
func changed(f api.Form, place int, do func(t *api.Token)) api.Form {
	f.Tokens = slices.Clone(f.Tokens)
	do(&f.Tokens[place])
	return f
}

// placeOf is the first token that begins something of the name.
func placeOf(f api.Form, name string) int {
	return slices.IndexFunc(f.Tokens, func(t api.Token) bool { return t.Name == name })
}

// madeAt is a form of another version than 2.
func madeAt(t testing.TB, version int, said string) api.Form {
	t.Helper()
	f := unchecked(said)
	f.Version = version
	if e, i := ir.Check(f); e != ok {
		t.Fatalf("%q is no form: %d at %d", said, e, i)
	}
	return f
}

// then is a form as it was at a version.
func then(t testing.TB, f api.Form, version int) api.Form {
	t.Helper()
	g, e := project.At(f, version)
	if e != ok {
		t.Fatalf("no form at %d: %v", version, e)
	}
	return g
}

// grown is a message that came at 1 and has grown up to 4, with something of every kind in it: constants, an enum, a set, composites and arrays, bytes that nobody has, groups in one another, data in them and behind them.
func grown(t testing.TB) api.Form {
	return madeAt(t, 4, "@1 a:uint8 k! e?:<uint8> s@2:[uint16] p@3:(int32,.,.,uint8,=int16) . q@4:char*3 g{8 x:uint16 y@3:int8~7 . h{16 z:(uint8,uint16*2) c:(=char*2) n$8 } m$16 } i@2{8 v:double } d@3$8 l@4$32")
}

// grownTree is a tree of grown at one of its versions.
func grownTree(version int) []api.Val {
	return tree([]string{
		1: "M a=9 e=1 g{ - x=300 h{ - z=1,2,3 n$nn - z=4,5,6 n$ } m$m - x=301 h{ } m$ }",
		2: "M a=9 e=255 s=0 g{ } i{ - v=0x3FF0000000000000 - v=1 }",
		3: "M a=0 e=2 s=0x8001 p=-5,6 g{ - x=7 y=-1 h{ } m$mmm } i{ } d$dd",
		4: "M a=255 e=3 s=65535 p=-2147483648,255 q=65,0,67 g{ - x=1 y=7 h{ - z=9,8,7 n$n } m$ } i{ - v=5 } d$ l$long",
	}[version])
}

// tree is a list by words: the message's name; then a name and = ahead of a field's words, { behind a group's name, - an entry, } the end of a group, a name and $ ahead of data's text.
func tree(said string) []api.Val {
	words := strings.Fields(said)
	m := []api.Val{{Depth: 1, Name: words[0]}}
	depth := 2
	for _, word := range words[1:] {
		switch {
		case word == "-":
			// In a list of entries the depth is that of the entry; inside one it is one more.
			m = append(m, api.Val{Depth: depth - 1, Kind: api.ValEntry})
		case word == "}":
			depth -= 2
		case strings.HasSuffix(word, "{"):
			m = append(m, api.Val{Depth: depth, Kind: api.ValGroup, Name: word[:len(word)-1]})
			depth += 2
		case strings.Contains(word, "$"):
			name, text, _ := strings.Cut(word, "$")
			m = append(m, api.Val{Depth: depth, Kind: api.ValData, Name: name, Text: text})
		default:
			name, list, _ := strings.Cut(word, "=")
			m = append(m, api.Val{Depth: depth, Kind: api.ValField, Name: name, Words: numbers(list)})
		}
	}
	return m
}

// numbers are words with commas between them.
func numbers(list string) []uint64 {
	var out []uint64
	for _, s := range strings.Split(list, ",") {
		n, err := strconv.ParseInt(s, 0, 64)
		w := uint64(n)
		if err != nil {
			if w, err = strconv.ParseUint(s, 0, 64); err != nil {
				panic(err)
			}
		}
		out = append(out, w)
	}
	return out
}

// with are bytes some of which, from a place on, are others.
func with(b []byte, at int, others ...byte) []byte {
	b = slices.Clone(b)
	copy(b[at:], others)
	return b
}
