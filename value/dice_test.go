package value_test

import (
	"fmt"
	"math"
	"math/rand"
	"slices"

	"stencil/api"
	"stencil/prim"
	"stencil/types"
)

// dice makes schemas that are valid, forms that no schema need have, and changes of forms.
type dice struct {
	*rand.Rand
	names int
	s     api.Schema
	f     api.Form
}

func end(op api.TokenOp, name string) api.Token { return api.Token{Op: op, Name: name} }

func newDice(seed int64) *dice { return &dice{Rand: rand.New(rand.NewSource(seed))} }

func (r *dice) oneIn(n int) bool { return r.Intn(n) == 0 }

func (r *dice) name() string {
	r.names++
	return fmt.Sprintf("n%d", r.names)
}

func (r *dice) word(p api.Prim) uint64 {
	w := r.Uint64()
	if r.oneIn(2) {
		w = []uint64{prim.Null(p), prim.Min(p), prim.Max(p), 0, 1}[r.Intn(5)]
	}
	for !prim.Fits(p, w) {
		w = uint64(int64(w) >> 8)
		if !prim.Signed(p) {
			w &= math.MaxUint64 >> (64 - 8*prim.Size(p))
		}
	}
	return w
}

func (r *dice) words(p api.Prim, n int) []uint64 {
	var out []uint64
	for range n {
		out = append(out, r.word(p))
	}
	return out
}

// spots are some that lie apart, in any order, and the bytes that they lie in.
func (r *dice) spots(n int) ([]api.Spot, int) {
	out, at := make([]api.Spot, n), 0
	for _, k := range r.Perm(n) {
		at += r.Intn(2) * r.Intn(3)
		out[k] = spot(api.Uint8+api.Prim(r.Intn(3)), at)
		at += prim.Size(out[k].Prim)
	}
	return out, at
}

// numbers is a composite with just these members, in any order.
func (r *dice) numbers(name string, members ...string) []api.TypeNode {
	spots, size := r.spots(len(members))
	order := r.Perm(len(members))
	slices.SortFunc(order, func(a, b int) int { return spots[a].Offset - spots[b].Offset })
	ns := []api.TypeNode{{Depth: 1, Kind: api.TypeComposite, Name: name, Size: size}}
	for _, k := range order {
		n := simple(2, members[k], spots[k].Prim, 1)
		n.Offset = spots[k].Offset
		ns = append(ns, n)
	}
	return ns
}

func simple(depth int, name string, p api.Prim, length int) api.TypeNode {
	return api.TypeNode{Depth: depth, Kind: api.TypeSimple, Name: name, Prim: p, Length: length, Size: length * prim.Size(p), Null: prim.Null(p), Min: prim.Min(p), Max: prim.Max(p)}
}

// node is a type, or a member, with what it holds.
func (r *dice) node(depth int) []api.TypeNode {
	name := r.name()
	n := simple(depth, name, api.Prim(r.Intn(11)), 1+r.Intn(3)*r.Intn(2))
	if r.oneIn(2) {
		n.Null, n.Min, n.Max = r.word(n.Prim), r.word(n.Prim), r.word(n.Prim)
	}
	switch r.Intn(8) {
	case 0:
		n = simple(depth, name, api.Prim(r.Intn(9)), 1)
		n.Kind, n.Values = api.TypeEnum, r.values(func(int) uint64 { return r.word(n.Prim) })
	case 1:
		n = simple(depth, name, api.Uint8+api.Prim(r.Intn(4)), 1)
		n.Kind, n.Null, n.Values = api.TypeSet, 0, r.values(func(int) uint64 { return uint64(r.Intn(8 * prim.Size(n.Prim))) })
	case 2:
		n.Presence, n.Size, n.Const = api.Constant, 0, r.words(n.Prim, n.Length)
	case 3:
		n.Presence = api.Optional
	case 4, 5:
		if depth < 5 {
			return r.composite(depth, name)
		}
	}
	return []api.TypeNode{n}
}

func (r *dice) values(value func(int) uint64) []api.Named {
	var out []api.Named
	for i := range r.Intn(4) {
		v := api.Named{Name: fmt.Sprintf("v%d", i), Value: value(i), Since: r.Intn(r.s.Version + 1)}
		if !slices.ContainsFunc(out, func(x api.Named) bool { return x.Value == v.Value }) {
			out = append(out, v)
		}
	}
	return out
}

func (r *dice) composite(depth int, name string) []api.TypeNode {
	ns, end := []api.TypeNode{{Depth: depth, Kind: api.TypeComposite, Name: name}}, 0
	for range r.Intn(4) {
		m := r.node(depth + 1)
		if m[0].Size > 0 {
			m[0].Offset = end + r.Intn(2)*r.Intn(3)
			end = m[0].Offset + m[0].Size
		}
		ns = append(ns, m...)
	}
	ns[0].Size = end
	return ns
}

// schema is a whole one.
func (r *dice) schema() api.Schema {
	r.names = 0
	r.s = api.Schema{Package: "p", ID: r.Intn(255), Version: r.Intn(5), Order: api.Endian(r.Intn(2)), Types: types.Basic()}
	for range r.Intn(3) {
		r.s.Types = append(r.s.Types, r.node(1)...)
	}
	r.s.Header = len(r.s.Types)
	r.s.Types = append(r.s.Types, r.numbers("head", "blockLength", "templateId", "schemaId", "version")...)
	for _, name := range []string{"dim", "dim2"} {
		r.s.Types = append(r.s.Types, r.numbers(name, "blockLength", "numInGroup")...)
	}
	for _, name := range []string{"data", "data2"} {
		length, data := simple(2, "length", api.Uint8+api.Prim(r.Intn(3)), 1), simple(2, "varData", []api.Prim{api.Char, api.Uint8}[r.Intn(2)], 0)
		data.Offset = length.Size
		r.s.Types = append(r.s.Types, api.TypeNode{Depth: 1, Kind: api.TypeComposite, Name: name, Size: length.Size}, length, data)
	}
	for range 2 + r.Intn(5) {
		r.s.Types = append(r.s.Types, r.node(1)...)
	}
	for i := range 1 + r.Intn(3) {
		r.part(api.Part{Depth: 1, Kind: api.PartMessage, ID: i, Since: r.Intn(r.s.Version + 1)})
		r.parts(len(r.s.Parts) - 1)
	}
	return r.s
}

// part puts one more part into the schema; of all but messages the ID is new.
func (r *dice) part(p api.Part) {
	p.Name, p.Deprecated = r.name(), r.Intn(3)-1
	if p.Kind != api.PartMessage {
		p.ID = r.names
	}
	r.s.Parts = append(r.s.Parts, p)
}

// typed is the place of one of the types of which the test holds.
func (r *dice) typed(fits func(n api.TypeNode) bool) int {
	var out []int
	for i, n := range r.s.Types {
		if n.Depth == 1 && fits(n) {
			out = append(out, i)
		}
	}
	return out[r.Intn(len(out))]
}

// parts puts what the message or group at i, the last part, holds.
func (r *dice) parts(i int) {
	held := r.s.Parts[i]
	since := held.Since
	for range r.Intn(4) {
		if r.oneIn(2) {
			since += r.Intn(r.s.Version - since + 1)
		}
		r.field(i, since)
	}
	if r.oneIn(3) {
		r.s.Parts[i].Block += r.Intn(4)
	}
	since = held.Since
	for _, kind := range [][]api.PartKind{{}, {api.PartGroup}, {api.PartGroup, api.PartGroup, api.PartData}, {api.PartGroup, api.PartData, api.PartData}, {api.PartData}}[r.Intn(5)] {
		if held.Depth == 1 {
			since += r.Intn(r.s.Version - since + 1)
		}
		if kind == api.PartData {
			r.part(api.Part{Depth: held.Depth + 1, Kind: kind, Type: r.typed(func(n api.TypeNode) bool { return n.Name == "data" || n.Name == "data2" }), Since: since})
		} else if held.Depth < 4 {
			r.part(api.Part{Depth: held.Depth + 1, Kind: kind, Type: r.typed(func(n api.TypeNode) bool { return n.Name == "dim" || n.Name == "dim2" }), Since: since})
			r.parts(len(r.s.Parts) - 1)
		}
	}
}

// field puts one more field into the message or group at i.
func (r *dice) field(i, since int) {
	held := r.s.Parts[i]
	k := r.typed(func(n api.TypeNode) bool { return n.Name != "data" && n.Name != "data2" })
	n := r.s.Types[k]
	p := api.Part{Depth: held.Depth + 1, Kind: api.PartField, Type: k, Presence: api.Optional, Size: n.Size, Since: since}
	if since == held.Since {
		p.Presence = api.Presence(r.Intn(2))
	}
	if n.Presence == api.Constant {
		p.Presence, p.Const = api.Constant, slices.Clone(n.Const)
	}
	for _, v := range n.Values {
		if n.Kind == api.TypeEnum && v.Since <= since && r.oneIn(3) {
			p.Presence, p.Size, p.Const = api.Constant, 0, []uint64{v.Value}
		}
	}
	if p.Size > 0 {
		p.Offset = held.Block + r.Intn(2)*r.Intn(3)
		r.s.Parts[i].Block = p.Offset + p.Size
	}
	r.part(p)
}

// put puts a token behind the others.
func (r *dice) put(t api.Token) { r.f.Tokens = append(r.f.Tokens, t) }

// form is a form made by itself: with blocks that were longer, composites with room in them, enums that take no bytes.
func (r *dice) form() api.Form {
	for {
		f := r.tryForm()
		// A byte may have to tell a block's length.
		if len(f.Tokens) < 70 && !slices.ContainsFunc(f.Tokens, func(t api.Token) bool { return t.Full > 254 }) {
			return f
		}
	}
}

func (r *dice) tryForm() api.Form {
	r.names = 0
	spots, size := r.spots(4)
	r.f = api.Form{Order: api.Endian(r.Intn(2)), Schema: r.Intn(255), Version: r.Intn(6), Head: api.Head{Size: size + r.Intn(2), Block: spots[0], Template: spots[1], Schema: spots[2], Version: spots[3]}}
	r.put(api.Token{Op: api.BeginMessage, Name: r.name(), ID: r.Intn(255), Since: r.Intn(r.f.Version + 1)})
	r.body(0, 1)
	r.f.Tokens = paired(r.f.Tokens...)
	return r.f
}

// body puts what the message or group at i, the last token, holds, and its end.
func (r *dice) body(i, depth int) {
	in := r.f.Tokens[i]
	since, at := in.Since, 0
	for range r.Intn(4) {
		since += r.Intn(2) * r.Intn(r.f.Version-since+1)
		at = r.fieldTokens(in.Since, since, at)
	}
	r.f.Tokens[i].Block = at + r.Intn(3)
	r.f.Tokens[i].Full = r.f.Tokens[i].Block + r.Intn(2)*r.Intn(9)
	since = in.Since
	row := func() {
		if depth == 1 {
			since += r.Intn(r.f.Version - since + 1)
		}
	}
	for range r.Intn(3) {
		if depth < 5 {
			row()
			spots, size := r.spots(2)
			r.put(api.Token{Op: api.BeginGroup, Name: r.name(), ID: r.names, Since: since, Size: size, A: spots[0], B: spots[1]})
			r.body(len(r.f.Tokens)-1, depth+1)
		}
	}
	for range r.Intn(3) {
		row()
		p, name := api.Uint8+api.Prim(r.Intn(3)), r.name()
		r.put(api.Token{Op: api.BeginData, Name: name, ID: r.names, Since: since, Size: prim.Size(p), A: spot(p, 0), Prim: []api.Prim{api.Char, api.Uint8}[r.Intn(2)]})
		r.put(end(api.EndData, name))
	}
	r.put(end(in.Op+1, in.Name))
}

// fieldTokens puts a field behind a place of its block, and tells its end.
func (r *dice) fieldTokens(least, since, at int) int {
	i, name := len(r.f.Tokens), r.name()
	r.put(api.Token{Op: api.BeginField, Name: name, ID: r.names, Since: since, Presence: api.Optional})
	if since == least {
		r.f.Tokens[i].Presence = api.Presence(r.Intn(2))
	}
	r.typeTokens(0, 0)
	if f := &r.f.Tokens[i]; r.oneIn(5) {
		f.Presence, f.Const = api.Constant, r.words(api.Uint64, 1+r.Intn(2))
	} else if f.Size = r.f.Tokens[i+1].Size; f.Size > 0 {
		f.Offset = at + r.Intn(2)*r.Intn(3)
		at = f.Offset + f.Size
	}
	r.put(end(api.EndField, name))
	return at
}

// typeTokens puts a type at a place, and tells its end.
func (r *dice) typeTokens(at, depth int) int {
	i, name := len(r.f.Tokens), r.name()
	switch r.Intn(6) {
	case 0, 1:
		op := []api.TokenOp{api.BeginEnum, api.BeginSet}[r.Intn(2)]
		p := api.Prim(r.Intn(9))
		if op == api.BeginSet {
			p = api.Uint8 + api.Prim(r.Intn(4))
		}
		t := r.encoding(at, p, 1)
		r.put(api.Token{Op: op, Name: name, Offset: at, Size: t.Size, Presence: t.Presence})
		r.put(t)
		for range r.Intn(3) {
			c := api.Token{Op: api.Choice, Name: r.name(), Value: r.word(p), Since: r.Intn(8)}
			if op == api.BeginSet {
				c.Value = uint64(r.Intn(8 * prim.Size(p)))
			}
			if !slices.ContainsFunc(r.f.Tokens[i:], func(t api.Token) bool { return t.Op == api.Choice && t.Value == c.Value }) {
				r.put(c)
			}
		}
		r.put(end(op+1, name))
	case 2, 3:
		if depth == 4 {
			r.put(r.encoding(at, api.Char, 1))
			break
		}
		r.put(api.Token{Op: api.BeginComposite, Name: name, Offset: at})
		last := at
		var free []int // those that take no bytes lie wherever they like
		for range r.Intn(4) {
			last += r.Intn(2) * r.Intn(3)
			k := len(r.f.Tokens)
			last = max(last, r.typeTokens(last, depth+1))
			if r.f.Tokens[k].Op == api.Encoding && r.f.Tokens[k].Size == 0 {
				free = append(free, k)
			}
		}
		r.f.Tokens[i].Size = last - at + r.Intn(2)
		for _, k := range free {
			r.f.Tokens[k].Offset = at + r.Intn(r.f.Tokens[i].Size+1)
		}
		r.put(end(api.EndComposite, name))
	default:
		r.put(r.encoding(at, api.Prim(r.Intn(11)), 1+r.Intn(3)))
	}
	return at + r.f.Tokens[i].Size
}

func (r *dice) encoding(at int, p api.Prim, length int) api.Token {
	t := api.Token{Op: api.Encoding, Name: r.name(), Offset: at, Size: length * prim.Size(p), Prim: p, Length: length, Presence: api.Presence(r.Intn(3)), Null: r.word(p), Min: r.word(p), Max: r.word(p)}
	if t.Presence == api.Constant {
		t.Size, t.Const = 0, r.words(p, length)
	}
	return t
}

// number is one near another, or at an edge.
func (r *dice) number(n int) int {
	switch r.Intn(6) {
	case 0:
		return []int{math.MinInt, math.MinInt + 1, -1, 0, 1, 65534, 65535, 65536, math.MaxInt - 1, math.MaxInt}[r.Intn(10)]
	case 1:
		return r.Intn(12)
	}
	return n + r.Intn(5) - 2
}

// turned is a form with something changed.
func (r *dice) turned(f api.Form) api.Form {
	f = tidy(f)
	for range 1 + r.Intn(2) {
		r.turn(&f)
	}
	return f
}

func (r *dice) turn(f *api.Form) {
	n := len(f.Tokens)
	if n == 0 {
		return
	}
	i, k := r.Intn(n), r.Intn(n)
	switch r.Intn(12) {
	case 0:
		r.turnHead(f)
	case 1: // away with some
		f.Tokens = slices.Delete(f.Tokens, min(i, k), min(max(i, k), min(i, k)+r.Intn(4)))
	case 2: // away with a whole part or type
		if t := f.Tokens[i]; t.Pair > i && t.Pair < n {
			f.Tokens = slices.Delete(f.Tokens, i, t.Pair+1)
		}
	case 3:
		f.Tokens[i], f.Tokens[k] = f.Tokens[k], f.Tokens[i]
	case 4: // a whole one elsewhere, or again
		if t := f.Tokens[i]; t.Pair > i && t.Pair < n {
			some := slices.Clone(f.Tokens[i : t.Pair+1])
			if r.oneIn(2) {
				f.Tokens = slices.Delete(f.Tokens, i, t.Pair+1)
			}
			f.Tokens = slices.Insert(f.Tokens, r.Intn(len(f.Tokens)+1), some...)
		}
	case 5:
		f.Tokens[i].Op = api.TokenOp(r.Intn(18) - 1)
	case 6:
		if t := f.Tokens[i]; t.Pair >= 0 && t.Pair < n {
			name := f.Tokens[k].Name
			f.Tokens[i].Name, f.Tokens[t.Pair].Name = name, name
		}
	default:
		r.turnToken(f, i, k)
	}
	if r.oneIn(2) {
		f.Tokens = paired(f.Tokens...)
	}
}

func (r *dice) turnHead(f *api.Form) {
	spots := []*api.Spot{&f.Head.Block, &f.Head.Template, &f.Head.Schema, &f.Head.Version}
	switch r.Intn(6) {
	case 0:
		f.Order = api.Endian(r.number(int(f.Order)))
	case 1:
		f.Schema = r.number(f.Schema)
	case 2:
		f.Version = r.number(f.Version)
	case 3:
		f.Head.Size = r.number(f.Head.Size)
	case 4:
		s := spots[r.Intn(4)]
		s.Offset = r.number(s.Offset)
	case 5:
		s := spots[r.Intn(4)]
		s.Prim = api.Prim(r.Intn(13) - 1)
	}
}

func (r *dice) turnToken(f *api.Form, i, k int) {
	t, u := &f.Tokens[i], f.Tokens[k]
	numbers := []*int{&t.ID, &t.Offset, &t.Size, &t.Since, &t.Length, &t.Block, &t.Full, &t.A.Offset, &t.B.Offset, &t.Pair}
	switch r.Intn(10) {
	case 0, 1, 2, 3:
		// One that isn't 0 says more.
		x := numbers[r.Intn(len(numbers))]
		for range 5 {
			if *x == 0 {
				x = numbers[r.Intn(len(numbers))]
			}
		}
		*x = r.number(*x)
	case 4:
		primes := []*api.Prim{&t.Prim, &t.A.Prim, &t.B.Prim}
		*primes[r.Intn(3)] = api.Prim(r.Intn(13) - 1)
	case 5:
		t.Presence = api.Presence(r.Intn(5) - 1)
	case 6:
		words := []*uint64{&t.Null, &t.Min, &t.Max, &t.Value}
		*words[r.Intn(4)] = []uint64{uint64(r.Intn(70)), u.Value, u.Null, u.Max, r.Uint64()}[r.Intn(5)]
	case 7:
		t.Const = u.Const
		if r.oneIn(3) {
			t.Const = r.words(api.Uint64, r.Intn(3))
		}
	case 8:
		t.ID = u.ID
	case 9:
		t.Since = u.Since
	}
}

// tidy is a form in memory of its own, in which lists without elements are nil.
func tidy(f api.Form) api.Form {
	f.Tokens = append([]api.Token(nil), f.Tokens...)
	for i := range f.Tokens {
		f.Tokens[i].Const = append([]uint64(nil), f.Tokens[i].Const...)
	}
	return f
}
