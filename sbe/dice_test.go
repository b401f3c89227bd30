package sbe_test

import (
	"fmt"
	"math/rand"
	"strings"

	"stencil/api"
	"stencil/ir"
	"stencil/prim"
	"stencil/text"
	"stencil/words"
)

// dice makes trees, lines, streams and bytes by chance.
type dice struct{ *rand.Rand }

func newDice(seed int64) dice { return dice{rand.New(rand.NewSource(seed))} }

func (r dice) oneIn(n int) bool { return r.Intn(n) == 0 }

func pick[T any](r dice, list ...T) T { return list[r.Intn(len(list))] }

// word is one of a leaf's type, mostly a small one.
func (r dice) word(leaf api.Token) uint64 {
	w := pick(r, leaf.Null, leaf.Max, uint64(r.Intn(120)), uint64(r.Intn(120)), r.Uint64()>>r.Intn(64))
	if !prim.Fits(leaf.Prim, w) {
		w = uint64(r.Intn(100))
	}
	return w
}

func (r dice) bytes(most int) string {
	b := make([]byte, r.Intn(most))
	for i := range b {
		b[i] = pick(r, byte(r.Intn(256)), 'a', ' ', '"', '\\', '\n')
	}
	return string(b)
}

// tree is one of a form.
func (r dice) tree(f api.Form) []api.Val {
	return r.parts(f, 0, 2, []api.Val{{Depth: 1, Kind: api.ValMessage, Name: f.Tokens[0].Name}})
}

// parts puts those of a message or group behind what is there.
func (r dice) parts(f api.Form, i, depth int, m []api.Val) []api.Val {
	for p := range ir.Parts(f, i) {
		v := api.Val{Depth: depth, Name: f.Tokens[p].Name}
		switch f.Tokens[p].Op {
		case api.BeginField:
			for leaf := range ir.Leaves(f, p) {
				for range f.Tokens[leaf].Length {
					v.Words = append(v.Words, r.word(f.Tokens[leaf]))
				}
			}
			if v.Kind = api.ValField; len(v.Words) > 0 {
				m = append(m, v)
			}
		case api.BeginGroup:
			v.Kind = api.ValGroup
			m = append(m, v)
			for range r.Intn(4) {
				m = append(m, api.Val{Depth: depth + 1, Kind: api.ValEntry})
				m = r.parts(f, p, depth+2, m)
			}
		case api.BeginData:
			v.Kind, v.Text = api.ValData, r.bytes(6)
			m = append(m, v)
		}
	}
	return m
}

// spoiltTree is a tree with something otherwise, which mostly is none.
func (r dice) spoiltTree(m []api.Val) []api.Val {
	v := &m[r.Intn(len(m))]
	switch r.Intn(6) {
	case 0:
		v.Depth++
	case 1:
		v.Kind = api.ValKind(r.Intn(7) - 1)
	case 2:
		v.Name = pick(r, "a", "b", "Order", "")
	case 3:
		v.Words = append(v.Words, 7)
	case 4:
		for i := range v.Words {
			v.Words[i] = r.Uint64()
		}
	case 5:
		return m[:r.Intn(len(m))]
	}
	return m
}

// message is one of a schema: its name, and a version that it mostly has.
func (r dice) message(s api.Schema) (string, int) {
	p := s.Parts[r.Intn(len(s.Parts))]
	for p.Kind != api.PartMessage {
		p = s.Parts[r.Intn(len(s.Parts))]
	}
	version := p.Since + r.Intn(s.Version+1-p.Since)
	if r.oneIn(12) {
		version = pick(r, p.Since-1, s.Version+1, 65534, -1)
	}
	if r.oneIn(12) {
		return pick(r, "Zed", "", "order", "num"), version
	}
	return p.Name, version
}

// spoilt is a text with something otherwise.
func (r dice) spoilt(s string) string {
	if s == "" {
		return pick(r, " ", "x")
	}
	i := r.Intn(len(s))
	b := string([]byte{pick(r, byte(r.Intn(256)), ' ', ' ', '0', '1', '"', '{', '\n', '\r', '[')})
	return pick(r, s[:i]+s[i+1:], s[:i]+b+s[i:], s[:i]+b+s[i+1:], s[:i], s+b, s+" x")
}

// turned are bytes with one of them otherwise, mostly one of the first.
func (r dice) turned(s string) string {
	b := []byte(s)
	if len(b) > 0 {
		b[r.Intn(min(len(b), pick(r, 11, 11, len(b))))] += pick(r, byte(1), 255, byte(r.Intn(256)))
	}
	return pick(r, string(b), string(b), s[:r.Intn(len(s)+1)], s+r.bytes(9))
}

// path is the text of one into a form, mostly.
func (r dice) path(f api.Form) string {
	var steps []string
	for at := 0; ; {
		var parts []int
		for p := range ir.Parts(f, at) {
			parts = append(parts, p)
		}
		if len(parts) == 0 {
			return strings.Join(append(steps, "x"), ".")
		}
		at = parts[r.Intn(len(parts))]
		name := f.Tokens[at].Name
		if f.Tokens[at].Op != api.BeginGroup || r.oneIn(3) {
			steps = append(steps, name)
			break
		}
		steps = append(steps, fmt.Sprintf("%s[%d]", name, r.Intn(3)))
	}
	return strings.Join(steps, ".")
}

// line is a command about a message.
func (r dice) line(c second) string {
	name, version := r.message(c.s)
	reader := r.Intn(c.s.Version + 1)
	if r.oneIn(15) {
		reader = pick(r, c.s.Version+1, 65534, 65535)
	}
	written, whole := "00", api.Form{Tokens: make([]api.Token, 1)}
	said := "{}"
	if f, e := c.form(name, version); e == ok {
		m := r.tree(f)
		said, _ = words.Print(f, m)
		s, _ := c.encode(name, version, m)
		if r.oneIn(4) {
			s = r.turned(s)
		}
		written = text.Hex(s)
		whole = f
		if g, e := c.form(name, c.s.Version); e == ok && r.oneIn(2) {
			whole = g
		}
	}
	line := pick(r, "messages", "outline", fmt.Sprint("news ", version), fmt.Sprint("form ", name, " ", version), fmt.Sprint("nulls ", name, " ", version),
		fmt.Sprint("encode ", name, " ", version, " ", said), fmt.Sprint("encode ", name, " ", version, " ", said), fmt.Sprint("decode ", reader, " ", written), fmt.Sprint("decode ", reader, " ", written),
		"dump "+written, fmt.Sprint("turn ", reader, " ", written), fmt.Sprint("turn ", reader, " ", written), "get "+written+" "+r.path(whole), "get "+written+" "+r.path(whole), "get "+written+" "+r.path(whole))
	if r.oneIn(8) {
		return r.spoilt(line)
	}
	return line
}
