package dump_test

import (
	"fmt"
	"math"
	"math/rand"
	"slices"
	"strings"

	"stencil/api"
	"stencil/ir"
	"stencil/prim"
)

// dice makes forms, trees and bytes by chance.
type dice struct{ *rand.Rand }

func newDice(seed int64) dice { return dice{rand.New(rand.NewSource(seed))} }

func (r dice) oneIn(n int) bool { return r.Intn(n) == 0 }

func pick[T any](r dice, list ...T) T { return list[r.Intn(len(list))] }

// kind is a type's words.
func (r dice) kind(depth int) string {
	p := api.Prim(r.Intn(len(primNames)))
	switch r.Intn(10) {
	case 0:
		return fmt.Sprint(primNames[p], "*", 1+r.Intn(4))
	case 1:
		return "<" + primNames[r.Intn(9)] + r.null() + ">"
	case 2:
		return "[" + primNames[api.Uint8+api.Prim(r.Intn(4))] + r.null() + "]"
	case 3:
		return "=" + primNames[p]
	case 4, 5:
		if depth > 3 {
			break
		}
		var members []string
		for range r.Intn(5) {
			members = append(members, pick(r, ".", r.kind(depth+1), r.kind(depth+1)))
		}
		return "(" + strings.Join(members, ",") + ")"
	case 6:
		return primNames[p] + r.null()
	}
	return primNames[p]
}

func (r dice) null() string { return pick(r, "", "~7", "~0", "~127") }

// body is the words of a block and its row. Names are few, so that unlike blocks have parts of the same ones. What is newer stands behind, in a block, and behind the message's row.
func (r dice) body(depth, since, version int) string {
	names := r.Perm(12)
	later := since
	name := func(may bool) string {
		n := names[0]
		names = names[1:]
		if may && r.oneIn(3) {
			later = min(version, later+r.Intn(3))
		}
		return fmt.Sprintf("%c@%d", 'a'+n, later)
	}
	var words []string
	for range r.Intn(5) {
		n := name(true)
		words = append(words, pick(r, ".", n+"!", n+":"+r.kind(0), n+":"+r.kind(0), n+":"+r.kind(0)))
	}
	if r.oneIn(4) {
		words = append(words, fmt.Sprint("+", pick(r, r.Intn(9), r.Intn(100), r.Intn(40000))))
	}
	later = since
	for range r.Intn(3) {
		if depth < 3 {
			n := name(depth == 0)
			words = append(words, n+"{"+r.bits(), r.body(depth+1, later, version), "}")
		}
	}
	for range r.Intn(3) {
		words = append(words, name(depth == 0)+"$"+r.bits())
	}
	return strings.Join(words, " ")
}

func (r dice) bits() string { return pick(r, "8", "8", "16", "32") }

// form is one by chance, with headers and dimensions of all kinds.
func (r dice) form() api.Form {
	for {
		version := r.Intn(6)
		since := r.Intn(version + 1)
		f := unchecked(fmt.Sprintf("@%d ", since) + r.body(0, since, version))
		if len(f.Tokens) > 120 {
			continue
		}
		f.Order, f.Schema, f.Version = pick(r, api.Little, api.Big), pick(r, 0, 7, 254, 255, 65534), version
		h := &f.Head
		h.Size = r.spread([]*api.Spot{&h.Block, &h.Template, &h.Schema, &h.Version}, f.Tokens[0].Full, f.Tokens[0].ID, f.Schema, f.Version)
		for i := range f.Tokens {
			if t := &f.Tokens[i]; t.Op == api.BeginGroup {
				t.Size = r.spread([]*api.Spot{&t.A, &t.B}, t.Full, 0)
			}
		}
		if err, _ := ir.Check(f); err == ok {
			return f
		}
	}
}

// spread lays spots that can tell such numbers apart, in any order, and answers the bytes that they lie in.
func (r dice) spread(spots []*api.Spot, numbers ...int) int {
	at := r.Intn(2)
	for _, k := range r.Perm(len(spots)) {
		p := pick(r, api.Uint8, api.Uint16, api.Uint32)
		for prim.Max(p) < uint64(numbers[k]) {
			p++
		}
		*spots[k] = spot(p, at)
		at += prim.Size(p) + r.Intn(2)
	}
	return at
}

// turned is a form with something otherwise, which mostly is none.
func (r dice) turned(f api.Form) api.Form {
	f.Tokens = slices.Clone(f.Tokens)
	t := &f.Tokens[r.Intn(len(f.Tokens))]
	n := pick(r, -1, 0, 1, 2, 9, 65535, 65536, math.MaxInt, math.MinInt)
	switch r.Intn(9) {
	case 0:
		*pick(r, &f.Schema, &f.Version, &f.Head.Size, &f.Head.Block.Offset, &f.Head.Version.Offset) = n
	case 1:
		f.Order = api.Endian(n)
	case 2:
		*pick(r, &f.Head.Block.Prim, &f.Head.Template.Prim, &t.A.Prim, &t.B.Prim, &t.Prim) = api.Prim(r.Intn(13) - 1)
	case 3:
		t.Op = api.TokenOp(r.Intn(18) - 1)
	case 4:
		f.Tokens = slices.Delete(f.Tokens, r.Intn(len(f.Tokens)), len(f.Tokens))
	case 5:
		// More room in a block, which may be.
		f.Tokens[0].Full += r.Intn(3)
		f.Tokens[0].Block += r.Intn(2)
	default:
		*pick(r, &t.Pair, &t.ID, &t.Offset, &t.Size, &t.Since, &t.Length, &t.Block, &t.Full, &t.A.Offset, &t.B.Offset) += pick(r, -1, 1, n)
	}
	return f
}

// word is one of the type.
func (r dice) word(p api.Prim) uint64 {
	if r.oneIn(3) {
		return pick(r, prim.Null(p), prim.Min(p), prim.Max(p))
	}
	spare := 64 - 8*prim.Size(p)
	if w := r.Uint64(); !prim.Signed(p) {
		return w << spare >> spare
	}
	return uint64(int64(r.Uint64()<<spare) >> spare)
}

// tree is one of a form as it is.
func (r dice) tree(f api.Form) []api.Val {
	return r.inside(f, 0, 2, []api.Val{{Depth: 1, Name: f.Tokens[0].Name}})
}

// inside puts the parts of a message or entry behind a list.
func (r dice) inside(f api.Form, place, depth int, m []api.Val) []api.Val {
	for k := range ir.Parts(f, place) {
		t := f.Tokens[k]
		v := api.Val{Depth: depth, Name: t.Name}
		switch t.Op {
		case api.BeginField:
			v.Kind = api.ValField
			for leaf := range ir.Leaves(f, k) {
				for range f.Tokens[leaf].Length {
					v.Words = append(v.Words, r.word(f.Tokens[leaf].Prim))
				}
			}
			if len(v.Words) > 0 {
				m = append(m, v)
			}
		case api.BeginGroup:
			v.Kind = api.ValGroup
			m = append(m, v)
			for range pick(r, 0, 1, 1, 2, 3) {
				m = append(m, api.Val{Depth: depth + 1, Kind: api.ValEntry})
				m = r.inside(f, k, depth+2, m)
			}
		case api.BeginData:
			v.Kind, v.Text = api.ValData, strings.Repeat(pick(r, "w", "\x00", "\xff"), pick(r, 0, 1, 2, r.Intn(9)))
			m = append(m, v)
		}
	}
	return m
}

// longer is a form some of whose blocks are longer, as a later schema's might be.
func (r dice) longer(f api.Form) api.Form {
	g := f
	g.Tokens = slices.Clone(f.Tokens)
	for i := range g.Tokens {
		if t := &g.Tokens[i]; r.oneIn(2) && (t.Op == api.BeginMessage || t.Op == api.BeginGroup) {
			more := r.Intn(4)
			t.Block += more
			t.Full += more
		}
	}
	if err, _ := ir.Check(g); err != ok {
		return f
	}
	return g
}

// spoilt are bytes some of which are others, or gone.
func (r dice) spoilt(b []byte) []byte {
	b = slices.Clone(b)
	for range r.Intn(4) {
		if len(b) == 0 {
			break
		}
		at := r.Intn(len(b))
		if r.oneIn(3) {
			at = r.Intn(min(len(b), 12))
		}
		b[at] = pick(r, 0, 1, 2, 7, 253, 254, 255, b[at]+1, b[at]-1, byte(r.Intn(256)))
	}
	// A whole number's bits, which are none that may be told.
	if at := r.Intn(len(b) + 1); r.oneIn(4) {
		for i := range min(len(b)-at, 1+r.Intn(4)) {
			b[at+i] = 255
		}
	}
	if r.oneIn(3) {
		b = b[:r.Intn(len(b)+1)]
	}
	return b
}

// version is one of a form's.
func (r dice) version(f api.Form) int {
	first := f.Tokens[0].Since
	return first + r.Intn(f.Version-first+1)
}
