package ir_test

import (
	"fmt"
	"math/big"
	"slices"
	"strings"

	"stencil/api"
	"stencil/prim"
	"stencil/schema"
	"stencil/text"
	"stencil/types"
)

// reading goes over Ops by the grammar of point 2: each function is a word of it, and tells whether it was read.
type reading struct {
	tokens []api.Token
	at     int
}

func (r *reading) take(ops ...api.TokenOp) bool {
	if r.at < len(r.tokens) && slices.Contains(ops, r.tokens[r.at].Op) {
		r.at++
		return true
	}
	return false
}

func (r *reading) sees(ops ...api.TokenOp) bool {
	ok := r.take(ops...)
	if ok {
		r.at--
	}
	return ok
}

func (r *reading) message() bool {
	return r.take(api.BeginMessage) && r.body() && r.take(api.EndMessage)
}

func (r *reading) body() bool {
	for r.sees(api.BeginField) {
		if !(r.take(api.BeginField) && r.kind() && r.take(api.EndField)) {
			return false
		}
	}
	for r.sees(api.BeginGroup) {
		if !(r.take(api.BeginGroup) && r.body() && r.take(api.EndGroup)) {
			return false
		}
	}
	for r.sees(api.BeginData) {
		if !(r.take(api.BeginData) && r.take(api.EndData)) {
			return false
		}
	}
	return true
}

func (r *reading) kind() bool {
	switch {
	case r.take(api.Encoding):
		return true
	case r.sees(api.BeginEnum, api.BeginSet):
		last := r.tokens[r.at].Op + 1
		r.at++
		if !r.take(api.Encoding) {
			return false
		}
		for r.take(api.Choice) {
		}
		return r.take(last)
	case r.take(api.BeginComposite):
		for r.sees(api.Encoding, api.BeginEnum, api.BeginSet, api.BeginComposite) {
			if !r.kind() {
				return false
			}
		}
		return r.take(api.EndComposite)
	}
	return false
}

// view is a form, and a token of it of which all ahead are right.
type view struct {
	f api.Form
	i int
	t api.Token
}

// holders is the places of what is open at a token (of one that ends something: that too), the innermost first.
func (v view) holders() []int {
	var out []int
	closed := 0
	for k := v.i - 1; k >= 0; k-- {
		switch op := v.f.Tokens[k].Op; {
		case op >= api.Encoding:
		case op%2 == 1:
			closed++
		case closed > 0:
			closed--
		default:
			out = append(out, k)
		}
	}
	return out
}

// in is the token inside of which this one stands.
func (v view) in() (api.Token, int) {
	h := v.holders()
	if len(h) == 0 {
		return api.Token{Op: -1}, -1
	}
	return v.f.Tokens[h[0]], h[0]
}

// ahead is the tokens ahead that begin something, or are something, right inside the same.
func (v view) ahead() []api.Token {
	_, h := v.in()
	var out []api.Token
	for k := h + 1; k < v.i; k++ {
		if t := v.f.Tokens[k]; t.Op >= api.Encoding || t.Op%2 == 0 {
			out = append(out, t)
			k = t.Pair
		}
	}
	return out
}

func (v view) aheadOf(ops ...api.TokenOp) []api.Token {
	return slices.DeleteFunc(v.ahead(), func(t api.Token) bool { return !slices.Contains(ops, t.Op) })
}

func all(oks ...bool) bool { return !slices.Contains(oks, false) }

func sum(numbers ...int) *big.Int {
	n := new(big.Int)
	for _, x := range numbers {
		n.Add(n, big.NewInt(int64(x)))
	}
	return n
}

func from(n, low, high int) bool { return n >= low && n <= high }

func lies(s api.Spot, n int) bool {
	return all(slices.Contains([]api.Prim{api.Uint8, api.Uint16, api.Uint32}, s.Prim), s.Offset >= 0, sum(s.Offset, prim.Size(s.Prim)).Cmp(sum(n)) <= 0)
}

// apart goes byte by byte.
func apart(spots ...api.Spot) bool {
	met := map[int]bool{}
	for _, s := range spots {
		for k := range prim.Size(s.Prim) {
			if met[s.Offset+k] {
				return false
			}
			met[s.Offset+k] = true
		}
	}
	return true
}

func tells(s api.Spot, n int) bool {
	return n >= 0 && uint64(n) <= map[api.Prim]uint64{api.Uint8: 254, api.Uint16: 65534, api.Uint32: 4294967294}[s.Prim]
}

func secondHead(f api.Form) bool {
	h := f.Head
	return all(f.Order == 0 || f.Order == 1, from(f.Schema, 0, 65535), from(f.Version, 0, 65534), from(h.Size, 1, 65535)) &&
		all(lies(h.Block, h.Size), lies(h.Template, h.Size), lies(h.Schema, h.Size), lies(h.Version, h.Size)) &&
		all(apart(h.Block, h.Template, h.Schema, h.Version), tells(h.Schema, f.Schema), tells(h.Version, f.Version))
}

// secondCheck is Check again, from the chapter's words.
func secondCheck(f api.Form) (api.Errno, int) {
	if !secondHead(f) {
		return api.ErrTokens, -1
	}
	r := &reading{tokens: f.Tokens}
	whole := r.message()
	for i := range r.at {
		v := view{f, i, f.Tokens[i]}
		if !all(v.point2(), v.point3()) || !all(v.point4(), v.point5(), v.point6(), v.point7(), v.point8(), v.point9(), v.point10()) {
			return api.ErrTokens, i
		}
	}
	if !whole || r.at < len(f.Tokens) {
		return api.ErrTokens, r.at
	}
	return api.OK, 0
}

func (v view) point2() bool {
	n := 0
	for _, k := range v.holders() {
		if v.f.Tokens[k].Op == v.t.Op {
			n++
		}
	}
	return !(v.t.Op == api.BeginGroup && n >= 8 || v.t.Op == api.BeginComposite && n >= 16)
}

func (v view) point3() bool {
	const message, field, group, data, composite, enum, set, encoding, choice = api.BeginMessage, api.BeginField, api.BeginGroup, api.BeginData, api.BeginComposite, api.BeginEnum, api.BeginSet, api.Encoding, api.Choice
	is := func(ops ...api.TokenOp) bool { return slices.Contains(ops, v.t.Op) }
	t := v.t
	zero := all(
		t.ID == 0 || is(message, field, group, data), t.Offset == 0 || is(field, composite, enum, set, encoding), t.Size == 0 || is(field, group, data, composite, enum, set, encoding),
		t.Since == 0 || is(message, field, group, data, choice), t.Prim == 0 || is(data, encoding), t.Length == 0 || is(encoding), t.Presence == 0 || is(field, enum, set, encoding),
		t.Null == 0 || is(encoding), t.Min == 0 || is(encoding), t.Max == 0 || is(encoding), len(t.Const) == 0 || is(field, encoding), t.Value == 0 || is(choice),
		t.Block == 0 || is(message, group), t.Full == 0 || is(message, group), t.A == api.Spot{} || is(group, data), t.B == api.Spot{} || is(group))
	if !zero || !text.Symbol(t.Name) {
		return false
	}
	if t.Op >= api.Encoding {
		return t.Pair == v.i
	}
	if t.Op%2 == 0 {
		if t.Pair <= v.i || t.Pair >= len(v.f.Tokens) {
			return false
		}
		p := v.f.Tokens[t.Pair]
		return p.Op == t.Op+1 && p.Name == t.Name && p.Pair == v.i
	}
	begin, h := v.in()
	return t.Pair == h && begin.Pair == v.i
}

func isPart(op api.TokenOp) bool {
	return op == api.BeginField || op == api.BeginGroup || op == api.BeginData
}

func (v view) point4() bool {
	if v.t.Op != api.BeginMessage && !isPart(v.t.Op) {
		return true
	}
	if !from(v.t.ID, 0, 65535) || v.t.Op == api.BeginMessage {
		return from(v.t.ID, 0, 65535)
	}
	for _, t := range v.f.Tokens[:v.i] {
		if isPart(t.Op) && t.ID == v.t.ID {
			return false
		}
	}
	return !slices.ContainsFunc(v.ahead(), func(t api.Token) bool { return t.Name == v.t.Name })
}

func (v view) point5() bool {
	since := v.t.Since
	in, _ := v.in()
	least := in.Since
	switch v.t.Op {
	case api.BeginMessage:
		return from(since, 0, v.f.Version)
	case api.BeginField:
		for _, t := range v.aheadOf(api.BeginField) {
			least = t.Since
		}
		return from(since, max(least, in.Since), v.f.Version)
	case api.BeginGroup, api.BeginData:
		if in.Op == api.BeginGroup {
			return since == in.Since
		}
		for _, t := range v.aheadOf(api.BeginGroup, api.BeginData) {
			least = t.Since
		}
		return from(since, max(least, in.Since), v.f.Version)
	case api.Choice:
		return from(since, 0, 65534)
	}
	return true
}

func (v view) point6() bool {
	t := v.t
	block := from(t.Block, 0, t.Full) && t.Full <= 65535
	switch t.Op {
	case api.BeginMessage:
		return block && tells(v.f.Head.Block, t.Full) && tells(v.f.Head.Template, t.ID)
	case api.BeginGroup:
		return block && from(t.Size, 1, 65535) && lies(t.A, t.Size) && lies(t.B, t.Size) && apart(t.A, t.B) && tells(t.A, t.Full)
	case api.BeginData:
		size := map[api.Prim]int{api.Uint8: 1, api.Uint16: 2, api.Uint32: 4}[t.A.Prim]
		return t.A.Offset == 0 && size != 0 && t.Size == size && (t.Prim == api.Char || t.Prim == api.Uint8)
	}
	return true
}

func (v view) point7() bool {
	t := v.t
	in, _ := v.in()
	if t.Op != api.BeginField {
		return true
	}
	if t.Presence < 0 || t.Presence > 2 || t.Presence == api.Required && t.Since != in.Since {
		return false
	}
	if t.Presence == api.Constant {
		return all(t.Offset == 0, t.Size == 0, len(t.Const) >= 1)
	}
	if v.i+1 >= len(v.f.Tokens) || !all(len(t.Const) == 0, t.Size >= 0, t.Size == v.f.Tokens[v.i+1].Size, t.Offset >= 0, t.Offset == 0 || t.Size != 0) {
		return false
	}
	for _, x := range v.aheadOf(api.BeginField) {
		if t.Size != 0 && x.Size != 0 && t.Offset < x.Offset+x.Size {
			return false
		}
	}
	return sum(t.Offset, t.Size).Cmp(sum(in.Block)) <= 0
}

func (v view) point8() bool {
	t := v.t
	if !slices.Contains([]api.TokenOp{api.BeginComposite, api.BeginEnum, api.BeginSet, api.Encoding}, t.Op) {
		return true
	}
	if !from(t.Size, 0, 65535) || !from(int(t.Presence), 0, 2) {
		return false
	}
	in, _ := v.in()
	same := all(t.Offset == in.Offset, t.Size == in.Size, t.Presence == in.Presence, t.Length == 1)
	switch in.Op {
	case api.BeginField:
		return t.Offset == 0
	case api.BeginEnum:
		return same && t.Prim != api.Float && t.Prim != api.Double
	case api.BeginSet:
		return same && slices.Contains([]api.Prim{api.Uint8, api.Uint16, api.Uint32, api.Uint64}, t.Prim)
	}
	for _, x := range v.ahead() {
		if t.Size != 0 && x.Size != 0 && t.Offset < x.Offset+x.Size {
			return false
		}
	}
	return t.Offset >= in.Offset && sum(t.Offset, t.Size).Cmp(sum(in.Offset, in.Size)) <= 0
}

func (v view) point9() bool {
	t := v.t
	if t.Op != api.Encoding {
		return true
	}
	fits := func(w uint64) bool { return prim.Fits(t.Prim, w) }
	if !all(t.Prim >= 0, t.Prim <= 10, from(t.Length, 1, 65535), fits(t.Null), fits(t.Min), fits(t.Max)) {
		return false
	}
	if t.Presence == api.Constant {
		return t.Size == 0 && len(t.Const) == t.Length && !slices.ContainsFunc(t.Const, func(w uint64) bool { return !fits(w) })
	}
	return t.Size == t.Length*prim.Size(t.Prim) && len(t.Const) == 0
}

func (v view) point10() bool {
	t := v.t
	if t.Op != api.Choice {
		return true
	}
	in, h := v.in()
	for _, x := range v.aheadOf(api.Choice) {
		if x.Name == t.Name || x.Value == t.Value {
			return false
		}
	}
	p := v.f.Tokens[h+1].Prim
	if in.Op == api.BeginSet {
		return t.Value < uint64(8*prim.Size(p))
	}
	return prim.Fits(p, t.Value)
}

// secondCompile is Compile again: the tokens without their Pairs, which are set when all are there.
func secondCompile(s api.Schema, part int) (api.Form, api.Errno) {
	if e, _ := schema.Valid(s); e != api.OK {
		return api.Form{}, e
	}
	if part < 0 || part >= len(s.Parts) || s.Parts[part].Kind != api.PartMessage {
		return api.Form{}, api.ErrPart
	}
	head, _ := types.HeadOf(s.Types, s.Header)
	return api.Form{Order: s.Order, Schema: s.ID, Version: s.Version, Head: head, Tokens: paired(partTokens(s, part)...)}, api.OK
}

func partTokens(s api.Schema, i int) []api.Token {
	p := s.Parts[i]
	t := api.Token{Name: p.Name, ID: p.ID, Since: p.Since}
	switch p.Kind {
	case api.PartMessage:
		t.Op, t.Block, t.Full = api.BeginMessage, p.Block, p.Block
	case api.PartGroup:
		t.Op, t.Block, t.Full, t.Size = api.BeginGroup, p.Block, p.Block, s.Types[p.Type].Size
		t.A, t.B, _ = types.DimOf(s.Types, p.Type)
	case api.PartData:
		t.Op = api.BeginData
		t.A, t.Prim, _ = types.DataOf(s.Types, p.Type)
		t.Size = prim.Size(t.A.Prim)
	case api.PartField:
		t.Op, t.Offset, t.Size, t.Presence, t.Const = api.BeginField, p.Offset, p.Size, p.Presence, p.Const
	}
	out := []api.Token{t}
	if p.Kind == api.PartField {
		out = append(out, nodeTokens(s.Types, p.Type, 0)...)
	}
	for k := i + 1; k < len(s.Parts) && s.Parts[k].Depth > p.Depth; k++ {
		if s.Parts[k].Depth == p.Depth+1 {
			out = append(out, partTokens(s, k)...)
		}
	}
	return append(out, end(t.Op+1, t.Name))
}

func nodeTokens(ts []api.TypeNode, i, at int) []api.Token {
	n := ts[i]
	encoding := api.Token{Op: api.Encoding, Name: n.Name, Offset: at, Size: n.Size, Prim: n.Prim, Length: n.Length, Presence: n.Presence, Null: n.Null, Min: n.Min, Max: n.Max, Const: n.Const}
	if n.Kind == api.TypeSimple {
		return []api.Token{encoding}
	}
	t := api.Token{Op: map[api.TypeKind]api.TokenOp{api.TypeEnum: api.BeginEnum, api.TypeSet: api.BeginSet, api.TypeComposite: api.BeginComposite}[n.Kind], Name: n.Name, Offset: at, Size: n.Size}
	out := []api.Token{t}
	if n.Kind == api.TypeComposite {
		for k := i + 1; k < len(ts) && ts[k].Depth > n.Depth; k++ {
			if ts[k].Depth == n.Depth+1 {
				out = append(out, nodeTokens(ts, k, at+ts[k].Offset)...)
			}
		}
	} else {
		encoding.Name = types.NameOf(n.Prim)
		out = append(out, encoding)
		for _, v := range n.Values {
			out = append(out, api.Token{Op: api.Choice, Name: v.Name, Value: v.Value, Since: v.Since})
		}
	}
	return append(out, end(t.Op+1, n.Name))
}

// secondParts goes over all tokens, and asks of each whether the one at i holds it.
func secondParts(f api.Form, i int) []int {
	if e, _ := secondCheck(f); e != api.OK || i < 0 || i >= len(f.Tokens) || f.Tokens[i].Op != api.BeginMessage && f.Tokens[i].Op != api.BeginGroup {
		return nil
	}
	var out []int
	for k, t := range f.Tokens {
		if _, h := (view{f, k, t}).in(); isPart(t.Op) && h == i {
			out = append(out, k)
		}
	}
	return out
}

func secondLeaves(f api.Form, i int) []int {
	if e, _ := secondCheck(f); e != api.OK || i < 0 || i >= len(f.Tokens) || f.Tokens[i].Op != api.BeginField || f.Tokens[i].Presence == api.Constant {
		return nil
	}
	var out []int
	for k, t := range f.Tokens {
		if t.Op == api.Encoding && t.Presence != api.Constant && slices.Contains((view{f, k, t}).holders(), i) {
			out = append(out, k)
		}
	}
	return out
}

func secondShow(f api.Form) ([]string, api.Errno) {
	if e, _ := secondCheck(f); e != api.OK {
		return nil, e
	}
	presence := func(t api.Token) string { return strings.Fields("required optional constant")[t.Presence] }
	var out []string
	for i, t := range f.Tokens {
		open := len((view{f, i, t}).holders())
		line := "end " + t.Name
		if t.Op < api.Encoding && t.Op%2 == 1 {
			open--
		}
		switch t.Op {
		case api.BeginMessage:
			line = fmt.Sprintf("message %s %d %d %d", t.Name, t.ID, t.Since, t.Block)
		case api.BeginField:
			line = fmt.Sprintf("field %s %d %d %d %d %s", t.Name, t.ID, t.Since, t.Offset, t.Size, presence(t))
		case api.BeginGroup:
			line = fmt.Sprintf("group %s %d %d %d %d", t.Name, t.ID, t.Since, t.Size, t.Block)
		case api.BeginData:
			line = fmt.Sprintf("data %s %d %d %d %s", t.Name, t.ID, t.Since, t.Size, types.NameOf(t.Prim))
		case api.BeginComposite, api.BeginEnum, api.BeginSet:
			line = fmt.Sprintf("%s %s %d %d", map[api.TokenOp]string{api.BeginComposite: "composite", api.BeginEnum: "enum", api.BeginSet: "set"}[t.Op], t.Name, t.Offset, t.Size)
		case api.Encoding:
			line = fmt.Sprintf("encoding %s %d %d %s %d %s", t.Name, t.Offset, t.Size, types.NameOf(t.Prim), t.Length, presence(t))
		case api.Choice:
			line = fmt.Sprintf("choice %s %d %d", t.Name, t.Value, t.Since)
		}
		out = append(out, strings.Repeat("  ", open)+line)
	}
	return out, api.OK
}
