package words_test

import (
	"slices"
	"strconv"
	"strings"
	"testing"

	"stencil/api"
	"stencil/ir"
	"stencil/prim"
)

const ok = api.OK

var primNames = []string{"char", "int8", "int16", "int32", "int64", "uint8", "uint16", "uint32", "uint64", "float", "double"}

// counters are the types that numbers of headers, dimensions and lengths have, by their bits.
var counters = map[string]api.Prim{"8": api.Uint8, "16": api.Uint16, "32": api.Uint32}

func spot(p api.Prim, at int) api.Spot { return api.Spot{Prim: p, Offset: at} }

// chapter is the form of the chapter's examples, chapterTree the tree of its first one, and chapterText its text.
const (
	chapter     = "a:uint8 b:int16*2 c:char*3 k:<uint8|Buy=1|Sell=2> p:(int32,uint8) g{8 x?:uint8 } d$8"
	chapterTree = "M a=7 b=-1,2 c=97,98,0 k=2 p=5,6 g{ - x=1 - x=255 } d$hi"
	chapterText = `{a:7 b:-1,2 c:"ab\x00" k:Sell p:5;6 g:[{x:1} {x:null}] d:"hi"}`
	chapterNull = `{a:null b:null c:null k:null p:null g:[] d:""}`
)

// maker puts a form's tokens one behind the other.
type maker struct {
	tokens []api.Token
	open   []int // of the messages and groups that are open
	more   []int // of each of them: how much longer than Block its Full is
	ids    int
}

func (k *maker) put(t api.Token) int {
	t.Pair = len(k.tokens)
	k.tokens = append(k.tokens, t)
	return t.Pair
}

// end puts the token that ends the one at a place.
func (k *maker) end(place int) {
	t := k.tokens[place]
	last := k.put(api.Token{Op: t.Op + 1, Name: t.Name})
	k.tokens[place].Pair, k.tokens[last].Pair = last, place
}

func (k *maker) id() int {
	k.ids++
	return k.ids
}

// begin puts a message or a group, finish its end.
func (k *maker) begin(t api.Token) { k.open, k.more = append(k.open, k.put(t)), append(k.more, 0) }

func (k *maker) finish() {
	last := len(k.open) - 1
	t := &k.tokens[k.open[last]]
	t.Full = t.Block + k.more[last]
	k.end(k.open[last])
	k.open, k.more = k.open[:last], k.more[:last]
}

// top is the message or group that is open.
func (k *maker) top() *api.Token { return &k.tokens[k.open[len(k.open)-1]] }

// field puts one behind those of its block; where it is newer than what holds it, it is optional.
func (k *maker) field(name, said string, since int) {
	t := api.Token{Op: api.BeginField, Name: strings.TrimSuffix(name, "?"), ID: k.id(), Since: since}
	if t.Name != name || since > k.top().Since {
		t.Presence = api.Optional
	}
	i := k.put(t)
	if said == "!" {
		k.tokens[i].Presence, k.tokens[i].Const = api.Constant, []uint64{1}
		k.kind("uint8", 0)
	} else if _, size := k.kind(said, 0); size > 0 {
		k.tokens[i].Size, k.tokens[i].Offset = size, k.top().Block
		k.top().Block += size
	}
	k.end(i)
}

// kind puts a type at a place of the field's bytes: what is behind its words, and its end.
func (k *maker) kind(said string, at int) (string, int) {
	switch first, rest := said[0], said[1:]; first {
	case '.':
		return rest, at + 1
	case '(':
		i := k.put(api.Token{Op: api.BeginComposite, Name: "C", Offset: at})
		end := at
		for rest[0] != ')' {
			rest, end = k.kind(strings.TrimPrefix(rest, ","), end)
		}
		k.tokens[i].Size = end - at
		k.end(i)
		return rest[1:], end
	case '<', '[':
		i := k.put(api.Token{Op: map[byte]api.TokenOp{'<': api.BeginEnum, '[': api.BeginSet}[first], Name: "E", Offset: at})
		rest, end := k.encoding(rest, at)
		k.tokens[i].Size, k.tokens[i].Presence = end-at, k.tokens[i+1].Presence
		rest = k.choices(rest)
		k.end(i)
		return rest[1:], end
	}
	return k.encoding(said, at)
}

func (k *maker) encoding(said string, at int) (string, int) {
	word, rest := cutAt(said, ",)>]|")
	plain, null, hasNull := strings.Cut(strings.TrimPrefix(word, "="), "~")
	name, times, isArray := strings.Cut(plain, "*")
	n := 1
	if isArray {
		n = count(times)
	}
	p := api.Prim(slices.Index(primNames, name))
	t := api.Token{Op: api.Encoding, Name: "coding", Offset: at, Prim: p, Length: n, Size: n * prim.Size(p), Null: prim.Null(p), Min: prim.Min(p), Max: prim.Max(p)}
	if hasNull {
		t.Null = numbers(null)[0]
	}
	if word[0] == '=' {
		t.Size, t.Presence, t.Const = 0, api.Constant, make([]uint64, n)
	}
	k.put(t)
	return rest, at + t.Size
}

// choices puts those of an enum or set, each behind a stroke.
func (k *maker) choices(said string) string {
	for said[0] == '|' {
		var word string
		word, said = cutAt(said[1:], "|>]")
		name, value, _ := strings.Cut(word, "=")
		k.put(api.Token{Op: api.Choice, Name: name, Value: numbers(value)[0]})
	}
	return said
}

// cutAt parts a text ahead of the first of some bytes.
func cutAt(s, any string) (string, string) {
	i := strings.IndexAny(s, any)
	if i < 0 {
		i = len(s)
	}
	return s[:i], s[i:]
}

func count(s string) int {
	n, err := strconv.Atoi(s)
	if err != nil {
		panic(err)
	}
	return n
}

// word puts what one word of a form says.
func (k *maker) word(said string) {
	if said == "}" {
		k.finish()
		return
	}
	i := strings.IndexAny(said, ":!{$.+")
	if i < 0 {
		k.top().Since = count(strings.TrimPrefix(said, "@"))
		return
	}
	name, when, isNewer := strings.Cut(said[:i], "@")
	since, rest := k.top().Since, said[i+1:]
	if isNewer {
		since = count(when)
	}
	switch said[i] {
	case ':':
		k.field(name, rest, since)
	case '!':
		k.field(name, "!", since)
	case '.':
		k.top().Block++
	case '+':
		k.more[len(k.more)-1] = count(rest)
	case '{':
		p := counters[rest]
		k.begin(api.Token{Op: api.BeginGroup, Name: name, ID: k.id(), Since: since, Size: 2 + prim.Size(p), A: spot(api.Uint16, 0), B: spot(p, 2)})
	case '$':
		p := counters[rest]
		k.end(k.put(api.Token{Op: api.BeginData, Name: name, ID: k.id(), Since: since, Size: prim.Size(p), A: spot(p, 0), Prim: api.Char}))
	}
}

// made is a form of the message M, of version 2, by words: NAME:TYPE is a field (NAME?:TYPE an optional one), NAME! a constant one, NAME{BITS .. } a group whose entries a number of so many bits counts, NAME$BITS data behind a length of so many, . a byte of the block that no field has, +N how much longer the block was made later. NAME@N says that it came at version N (else it is as old as what holds it), a word @N alone that the message did. A TYPE is a primitive type's name, with *N behind it an array of N, with ~N the null N, with = ahead a constant; <TYPE|NAME=N..> an enum with choices, [TYPE|NAME=N..] a set, (TYPE,TYPE,..) a composite, in which . is a byte that nobody has.
func made(t testing.TB, said string) api.Form {
	t.Helper()
	f := unchecked(said)
	if e, i := ir.Check(f); e != ok {
		t.Fatalf("%.200q is no form: %d at %d", said, e, i)
	}
	return f
}

func unchecked(said string) api.Form {
	k := &maker{}
	k.begin(api.Token{Op: api.BeginMessage, Name: "M", ID: 3})
	for _, word := range strings.Fields(said) {
		k.word(word)
	}
	k.finish()
	return api.Form{Order: api.Little, Schema: 7, Version: 2, Tokens: k.tokens,
		Head: api.Head{Size: 8, Block: spot(api.Uint16, 0), Template: spot(api.Uint16, 2), Schema: spot(api.Uint16, 4), Version: spot(api.Uint16, 6)}}
}

// changed is a form in memory of its own with a token otherwise.
func changed(f api.Form, place int, do func(t *api.Token)) api.Form {
	f.Tokens = slices.Clone(f.Tokens)
	do(&f.Tokens[place])
	return f
}

// placeOf is the first token that has the name.
func placeOf(f api.Form, name string) int {
	return slices.IndexFunc(f.Tokens, func(t api.Token) bool { return t.Name == name })
}

// grown has something of every kind in it: constants, enums, sets, composites and arrays, bytes that nobody has, groups in one another, data in them and behind them.
func grown(t testing.TB) api.Form {
	return made(t, "a:uint8 k! e?:<uint8|Buy=1|Sell=2|null=3> s@1:[uint16|One=0|Two=9] p@1:(int32,.,.,<char|A=65>,=int16,(char*2,[uint8|T=0]),()) . q@2:char*3 l@2:() r@2:float*2 g{8 x:uint16 y:int8~7 . h{16 z:(uint8,uint16*2) c:(=char*2) n$8 } m$16 } i@1{8 v:double } d@2$8 e2@2$32")
}

// grownTree and grownText are a tree of it and its text.
const (
	grownTree = "M a=255 e=3 s=513 p=-5,65,0,255,6 q=65,0,34 r=0x3FC00000,0xFF800000 g{ - x=1 y=7 h{ - z=9,8,7 n$n - z=255,65535,65535 n$ } m$mm - x=65535 y=-1 h{ } m$ } i{ - v=0x7FF8000000000000 - v=0x4000000000000000 } d$dd e2$"
	grownText = `{a:null e:3 s:513 p:-5;A;"\x00\xff";6 q:"A\x00\"" r:1.5,-INF g:[{x:1 y:null h:[{z:9;8,7 n:"n"} {z:null n:""}] m:"mm"} {x:null y:-1 h:[] m:""}] i:[{v:null} {v:2}] d:"dd" e2:""}`
)

// tree is a list by words: the message's name; then a name and = ahead of a field's words, { behind a group's name, - an entry, } the end of a group, a name and $ ahead of data's text.
func tree(said string) []api.Val {
	words := strings.Fields(said)
	m := []api.Val{{Depth: 1, Name: words[0]}}
	depth := 2
	for _, word := range words[1:] {
		switch {
		case word == "-":
			// In a list of entries the depth is that of the entry; inside one it is one more.
			m = append(m, api.Val{Depth: depth - 1, Kind: api.ValEntry})
		case word == "}":
			depth -= 2
		case strings.HasSuffix(word, "{"):
			m = append(m, api.Val{Depth: depth, Kind: api.ValGroup, Name: word[:len(word)-1]})
			depth += 2
		case strings.Contains(word, "$"):
			name, text, _ := strings.Cut(word, "$")
			m = append(m, api.Val{Depth: depth, Kind: api.ValData, Name: name, Text: text})
		default:
			name, list, _ := strings.Cut(word, "=")
			m = append(m, api.Val{Depth: depth, Kind: api.ValField, Name: name, Words: numbers(list)})
		}
	}
	return m
}

// numbers are words with commas between them.
func numbers(list string) []uint64 {
	var out []uint64
	for _, s := range strings.Split(list, ",") {
		n, err := strconv.ParseInt(s, 0, 64)
		w := uint64(n)
		if err != nil {
			if w, err = strconv.ParseUint(s, 0, 64); err != nil {
				panic(err)
			}
		}
		out = append(out, w)
	}
	return out
}
