package words_test

import (
	"fmt"
	"regexp"
	"slices"
	"strings"

	"stencil/api"
	"stencil/ir"
	"stencil/number"
	"stencil/text"
	"stencil/value"
)

// second looks at forms, trees and texts once more, by the chapter's words alone: the text is cut at once, each piece knows what it is, and what is wrong is handed up as a value.
type second struct {
	f      api.Form
	parts  map[int][]int // of each message and group the places of the parts of its block
	leaves map[int][]int // of each field
	pieces []piece
	next   int
}

type piece struct {
	at    int
	kind  string // a sign itself, "atom", "quoted", "spoilt", "end"
	text  string
	spoil int // of a quoted text that is none: the place that Unquote tells
}

// wrong is a fault; its zero value is none.
type wrong struct {
	err api.Errno
	at  int
}

func secondOf(f api.Form) *second {
	s := &second{f: f, parts: map[int][]int{}, leaves: map[int][]int{}}
	for i, t := range f.Tokens {
		switch t.Op {
		case api.BeginField:
			s.leaves[i] = slices.Collect(ir.Leaves(f, i))
		case api.BeginMessage, api.BeginGroup:
			s.parts[i] = slices.Collect(ir.Parts(f, i))
		}
	}
	for i, list := range s.parts {
		s.parts[i] = slices.DeleteFunc(list, func(k int) bool { return f.Tokens[k].Op == api.BeginField && len(s.leaves[k]) == 0 })
	}
	return s
}

var pieceForm = regexp.MustCompile(`^(?s:[{}\[\]:;,]|[^{}\[\]:;," \t\r\n]+)`)

// cut is a text's pieces, up to one that is spoilt, and an end.
func cut(s string) []piece {
	var out []piece
	for at := 0; ; {
		at = len(s) - len(strings.TrimLeft(s[at:], " \t\r\n"))
		rest := s[at:]
		p := piece{at: at, kind: "atom", text: pieceForm.FindString(rest)}
		n := len(p.text)
		switch {
		case rest == "":
			return append(out, piece{at: at, kind: "end"})
		case rest[0] == '"':
			var err api.Errno
			p.kind = "quoted"
			if p.text, n, err = text.Unquote(rest); err != ok {
				return append(out, piece{at: at, kind: "spoilt", spoil: at + n})
			}
		case strings.Contains("{}[]:;,", p.text):
			p.kind = p.text
		}
		out = append(out, p)
		at += n
	}
}

func (s *second) peek() piece { return s.pieces[s.next] }

// syntax is the fault of the next piece, where another is wanted.
func (s *second) syntax() wrong {
	if p := s.peek(); p.kind == "spoilt" {
		return wrong{api.ErrQuote, p.spoil}
	}
	return wrong{api.ErrSyntax, s.peek().at}
}

func (s *second) count() wrong {
	if s.peek().kind == "spoilt" {
		return s.syntax()
	}
	return wrong{api.ErrWords, s.peek().at}
}

func (s *second) take(kind string) (string, wrong) {
	p := s.peek()
	if p.kind != kind {
		return "", s.syntax()
	}
	s.next++
	return p.text, wrong{}
}

// parse answers what Parse must.
func (s *second) parse(said string) ([]api.Val, api.Errno, int) {
	s.pieces, s.next = cut(said), 0
	m, w := s.block(0, []api.Val{{Depth: 1, Kind: api.ValMessage, Name: s.f.Tokens[0].Name}})
	if w == (wrong{}) && s.peek().kind != "end" {
		w = s.syntax()
	}
	if w != (wrong{}) {
		return nil, w.err, w.at
	}
	if err, _ := value.Check(s.f, m); err != ok {
		return nil, err, 0
	}
	return m, ok, 0
}

// block puts the parts of a block behind the node of what it is.
func (s *second) block(place int, m []api.Val) ([]api.Val, wrong) {
	depth := m[0].Depth + 1
	came := map[int][]api.Val{}
	if _, w := s.take("{"); w != (wrong{}) {
		return nil, w
	}
	for s.peek().kind != "}" {
		p := s.peek()
		k := slices.IndexFunc(s.parts[place], func(k int) bool { return s.f.Tokens[k].Name == p.text })
		if p.kind != "atom" || k < 0 || came[s.parts[place][k]] != nil {
			return nil, s.syntax()
		}
		s.next++
		if _, w := s.take(":"); w != (wrong{}) {
			return nil, w
		}
		part := s.parts[place][k]
		nodes, w := s.part(part, depth)
		if w != (wrong{}) {
			return nil, w
		}
		came[part] = nodes
	}
	s.next++
	for _, part := range s.parts[place] {
		if came[part] == nil {
			came[part] = []api.Val{s.empty(part, depth)}
		}
		m = append(m, came[part]...)
	}
	return m, wrong{}
}

// empty is the node of a part of which nothing is said.
func (s *second) empty(place, depth int) api.Val {
	t := s.f.Tokens[place]
	v := api.Val{Depth: depth, Name: t.Name, Kind: map[api.TokenOp]api.ValKind{api.BeginField: api.ValField, api.BeginGroup: api.ValGroup, api.BeginData: api.ValData}[t.Op]}
	for _, leaf := range s.leaves[place] {
		null := s.f.Tokens[leaf].Null
		if s.f.Tokens[leaf-1].Op == api.BeginSet {
			null = 0
		}
		v.Words = append(v.Words, slices.Repeat([]uint64{null}, s.f.Tokens[leaf].Length)...)
	}
	return v
}

func (s *second) part(place, depth int) ([]api.Val, wrong) {
	v := s.empty(place, depth)
	out := []api.Val{v}
	var w wrong
	switch v.Kind {
	case api.ValData:
		out[0].Text, w = s.take("quoted")
	case api.ValGroup:
		if _, w = s.take("["); w != (wrong{}) {
			return nil, w
		}
		for s.peek().kind != "]" {
			entry, w := s.block(place, []api.Val{{Depth: depth + 1, Kind: api.ValEntry}})
			if w != (wrong{}) {
				return nil, w
			}
			out = append(out, entry...)
		}
		s.next++
	case api.ValField:
		if p := s.peek(); p.kind == "atom" && p.text == "null" {
			s.next++
			if s.peek().kind == "," || s.peek().kind == ";" {
				return nil, s.count()
			}
			return out, wrong{}
		}
		out[0].Words, w = s.words(place)
	}
	return out, w
}

// words reads those of a field, with what stands behind each element.
func (s *second) words(place int) ([]uint64, wrong) {
	var out []uint64
	left := 0
	for _, leaf := range s.leaves[place] {
		left += s.f.Tokens[leaf].Length
	}
	for _, leaf := range s.leaves[place] {
		n := s.f.Tokens[leaf].Length
		for n > 0 {
			words, w := s.element(leaf)
			if w != (wrong{}) {
				return nil, w
			}
			out = append(out, words...)
			n -= len(words)
			left -= len(words)
			switch kind := s.peek().kind; {
			case kind == "," && n > 0, kind == ";" && n == 0 && left > 0:
				s.next++
			case kind == ",", kind == ";", left > 0:
				return nil, s.count()
			}
		}
	}
	return out, wrong{}
}

// element reads one of a leaf, or all bytes of a leaf of characters.
func (s *second) element(leaf int) ([]uint64, wrong) {
	t, p := s.f.Tokens[leaf], s.peek()
	if p.kind == "atom" && p.text != "null" && s.f.Tokens[leaf-1].Op == api.BeginEnum {
		for _, c := range s.f.Tokens[leaf+1:] {
			if c.Op != api.Choice {
				break
			}
			if c.Name == p.text {
				s.next++
				return []uint64{c.Value}, wrong{}
			}
		}
	}
	if t.Prim != api.Char {
		if p.kind != "atom" {
			return nil, s.syntax()
		}
		w, err, at := number.Parse(t.Prim, p.text)
		if err != ok {
			return nil, wrong{err, p.at + at}
		}
		s.next++
		return []uint64{w}, wrong{}
	}
	if p.kind != "quoted" {
		return nil, s.syntax()
	}
	if len(p.text) != t.Length {
		return nil, s.count()
	}
	s.next++
	var words []uint64
	for _, c := range []byte(p.text) {
		words = append(words, uint64(c))
	}
	return words, wrong{}
}

// print answers what Print must of a tree.
func (s *second) print(m []api.Val) string {
	out, rest := s.told(0, m[1:])
	if len(rest) > 0 {
		panic("nodes are left over")
	}
	return out
}

// told is the text of a block, whose nodes a list begins with, and the others.
func (s *second) told(place int, m []api.Val) (string, []api.Val) {
	var items []string
	for _, part := range s.parts[place] {
		v := m[0]
		m = m[1:]
		var item string
		switch v.Kind {
		case api.ValField:
			item = s.field(part, v.Words)
		case api.ValData:
			item = text.Quote(v.Text)
		case api.ValGroup:
			var entries []string
			for len(m) > 0 && m[0].Depth == v.Depth+1 {
				var entry string
				entry, m = s.told(part, m[1:])
				entries = append(entries, entry)
			}
			item = "[" + strings.Join(entries, " ") + "]"
		}
		items = append(items, v.Name+":"+item)
	}
	return "{" + strings.Join(items, " ") + "}", m
}

func (s *second) field(place int, words []uint64) string {
	if slices.Equal(words, s.empty(place, 0).Words) {
		return "null"
	}
	var out []string
	for _, leaf := range s.leaves[place] {
		n := s.f.Tokens[leaf].Length
		out = append(out, s.leaf(leaf, words[:n]))
		words = words[n:]
	}
	return strings.Join(out, ";")
}

func (s *second) leaf(place int, words []uint64) string {
	t := s.f.Tokens[place]
	if s.f.Tokens[place-1].Op == api.BeginEnum {
		for _, c := range s.f.Tokens[place+1:] {
			if c.Op != api.Choice {
				break
			}
			if c.Value == words[0] && c.Name != "null" {
				return c.Name
			}
		}
	}
	var out []string
	var bytes []byte
	for _, w := range words {
		one, err := number.Print(t.Prim, w)
		if err != ok {
			panic(fmt.Sprint(t.Prim, w))
		}
		out, bytes = append(out, one), append(bytes, byte(w))
	}
	if t.Prim == api.Char {
		return text.Quote(string(bytes))
	}
	return strings.Join(out, ",")
}
