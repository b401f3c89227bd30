package canon_test

import (
	"fmt"
	"math/rand"
	"slices"
	"strings"
	"testing"

	"stencil/api"
	"stencil/canon"
	"stencil/prim"
	"stencil/schema"
	"stencil/types"
)

// dice makes schemas that are valid, but for a fault now and then, and of which most can be said.
type dice struct {
	*rand.Rand
	names int
	s     api.Schema
	odd   bool // now and then something that can't be said
}

func newDice(seed int64) *dice {
	return &dice{Rand: rand.New(rand.NewSource(seed)), odd: seed%2 == 0}
}

func (r *dice) oneIn(n int) bool { return r.Intn(n) == 0 }

func (r *dice) name() string {
	r.names++
	return fmt.Sprintf("n%d", r.names)
}

// word is one of the type.
func (r *dice) word(p api.Prim) uint64 {
	w := r.Uint64()
	switch r.Intn(4) {
	case 0:
		w = uint64(r.Intn(5)) - 2
	case 1:
		return []uint64{prim.Null(p), prim.Min(p), prim.Max(p)}[r.Intn(3)]
	}
	away := 64 - 8*prim.Size(p)
	if prim.Signed(p) {
		return uint64(int64(w<<away) >> away)
	}
	return w << away >> away
}

// bounds gives a node a null, least and greatest value of its own now and then.
func (r *dice) bounds(n *api.TypeNode) {
	for _, w := range []*uint64{&n.Null, &n.Min, &n.Max} {
		if r.oneIn(4) {
			*w = r.word(n.Prim)
		}
	}
}

func (r *dice) simple(depth int) api.TypeNode {
	p := api.Prim(r.Intn(11))
	length := 1
	if r.oneIn(3) {
		length = 1 + r.Intn(6)
	}
	n := simple(depth, r.name(), p, length)
	switch r.Intn(4) {
	case 0:
		n.Presence = api.Optional
	case 1:
		n = fixed(depth, n.Name, p, r.constant(p, length)...)
	}
	r.bounds(&n)
	return n
}

func (r *dice) constant(p api.Prim, length int) []uint64 {
	words := make([]uint64, length)
	for i := range words {
		words[i] = r.word(p)
		if p == api.Char {
			words[i] = uint64("ab<&>\"'#,09"[r.Intn(11)])
		}
	}
	if p == api.Char {
		clear(words[1+r.Intn(length):])
		if r.odd && r.oneIn(4) {
			words[r.Intn(length)] = uint64([]int{0, 9, 32, 160, 255}[r.Intn(5)])
		}
	}
	return words
}

// coded is an enum or set whose coding is to be found.
func (r *dice) coded(depth int) api.TypeNode {
	n := enum(depth, r.name(), api.Prim(r.Intn(9)))
	if r.oneIn(2) {
		n = set(depth, n.Name, api.Uint8+api.Prim(r.Intn(4)))
	}
	return n
}

// code gives the enums and sets codings, of types that are there, but where it is odd.
func (r *dice) code() {
	var coders []api.TypeNode
	for _, n := range r.s.Types {
		if n.Depth == 1 && n.Kind == api.TypeSimple && n.Length == 1 && n.Presence != api.Constant && n.Prim < api.Float {
			coders = append(coders, n)
		}
	}
	for i := range r.s.Types {
		n := &r.s.Types[i]
		if n.Kind != api.TypeEnum && n.Kind != api.TypeSet {
			continue
		}
		for range 20 {
			c := coders[r.Intn(len(coders))]
			if n.Kind == api.TypeEnum && c.Prim == n.Prim {
				n.Null, n.Min, n.Max = c.Null, c.Min, c.Max
				break
			}
			if n.Kind == api.TypeSet && c.Prim == n.Prim {
				n.Min, n.Max = c.Min, c.Max
				break
			}
		}
		if r.odd && r.oneIn(12) {
			n.Min = r.word(n.Prim)
		}
		r.values(n)
	}
}

func (r *dice) values(n *api.TypeNode) {
	met := map[uint64]bool{}
	for range r.Intn(4) {
		v := api.Named{Name: r.name(), Value: r.word(n.Prim), Since: r.Intn(r.s.Version + 1)}
		if n.Kind == api.TypeSet {
			v.Value %= uint64(8 * prim.Size(n.Prim))
		}
		if !met[v.Value] {
			met[v.Value] = true
			n.Values = append(n.Values, v)
		}
	}
}

// composite is one with what it holds, laid with gaps.
func (r *dice) composite(depth int, members ...[]api.TypeNode) []api.TypeNode {
	ns := []api.TypeNode{composite(depth, r.name(), 0)}
	end := 0
	for _, m := range members {
		if m[0].Size > 0 || m[0].Kind == api.TypeSimple && m[0].Length == 0 {
			if r.oneIn(3) {
				end += r.Intn(5)
			}
			m[0].Offset = end
			end += m[0].Size
		}
		ns = append(ns, m...)
	}
	ns[0].Size = end
	return ns
}

func (r *dice) node(depth int) []api.TypeNode {
	switch {
	case r.oneIn(3) && depth < 5:
		var members [][]api.TypeNode
		for range r.Intn(4) {
			members = append(members, r.node(depth+1))
		}
		if depth == 1 && r.oneIn(5) {
			members = append(members, []api.TypeNode{simple(2, r.name(), api.Prim(r.Intn(11)), 0)})
		}
		return r.composite(depth, members...)
	case r.oneIn(3):
		return []api.TypeNode{r.coded(depth)}
	}
	return []api.TypeNode{r.simple(depth)}
}

// numbers is a composite of numbers: a header, a dimension.
func (r *dice) numbers(names ...string) []api.TypeNode {
	r.Shuffle(len(names), func(i, j int) { names[i], names[j] = names[j], names[i] })
	var members [][]api.TypeNode
	for _, name := range names {
		n := simple(2, name, api.Uint16+api.Prim(r.Intn(2)), 1)
		r.bounds(&n)
		members = append(members, []api.TypeNode{n})
	}
	return r.composite(1, members...)
}

// data is a composite of variable data, which has no gap.
func (r *dice) data() []api.TypeNode {
	n := simple(2, "length", api.Uint8+api.Prim(r.Intn(3)), 1)
	r.bounds(&n)
	return []api.TypeNode{composite(1, r.name(), n.Size), n, simple(2, "varData", []api.Prim{api.Char, api.Uint8}[r.Intn(2)], 0, at(n.Size))}
}

// schema is a whole one.
func (r *dice) schema() api.Schema {
	r.s = api.Schema{Package: []string{"p", "a.b", "x_.y9.Z"}[r.Intn(3)], ID: r.Intn(9), Version: r.Intn(4), Order: api.Endian(r.Intn(2)), Types: types.Basic()}
	kinds := [][]api.TypeNode{r.numbers("blockLength", "templateId", "schemaId", "version"), r.numbers("blockLength", "numInGroup"), r.data()}
	kinds[r.Intn(3)][0].Name = []string{"messageHeader", "groupSizeEncoding"}[r.Intn(2)]
	names := []string{kinds[0][0].Name, kinds[1][0].Name, kinds[2][0].Name}
	for range 2 + r.Intn(8) {
		kinds = append(kinds, r.node(1))
	}
	r.Shuffle(len(kinds), func(i, j int) { kinds[i], kinds[j] = kinds[j], kinds[i] })
	for _, ns := range kinds {
		r.s.Types = append(r.s.Types, ns...)
	}
	r.code()
	r.s.Header = r.place(names[0])
	for range r.Intn(4) {
		since := r.Intn(r.s.Version + 1)
		i := r.part(api.Part{Depth: 1, Kind: api.PartMessage, Since: since})
		r.parts(i, r.place(names[1]), r.place(names[2]))
	}
	return r.s
}

func (r *dice) place(name string) int {
	return slices.IndexFunc(r.s.Types, func(n api.TypeNode) bool { return n.Depth == 1 && n.Name == name })
}

// part puts one more into the schema.
func (r *dice) part(p api.Part) int {
	p.Name = r.name()
	p.ID, p.Deprecated = r.names, -1
	if r.oneIn(5) {
		p.Deprecated = r.Intn(5)
	}
	r.s.Parts = append(r.s.Parts, p)
	return len(r.s.Parts) - 1
}

func (r *dice) later(since int) int { return since + r.Intn(r.s.Version-since+1) }

// parts is what the message or group at i holds.
func (r *dice) parts(i, dim, data int) {
	held := r.s.Parts[i]
	since, end := held.Since, 0
	for range r.Intn(5) {
		if r.oneIn(3) {
			since = r.later(since)
		}
		if p, ok := r.field(held, since); ok {
			if p.Size > 0 {
				if r.oneIn(3) {
					end += r.Intn(7)
				}
				p.Offset = end
				end += p.Size
			}
			r.part(p)
		}
	}
	r.s.Parts[i].Block = end
	if r.oneIn(3) {
		r.s.Parts[i].Block += r.Intn(5)
	}
	since = held.Since
	for range r.Intn(3) {
		if held.Depth == 1 {
			since = r.later(since)
		}
		if held.Depth < 4 {
			r.parts(r.part(api.Part{Depth: held.Depth + 1, Kind: api.PartGroup, Type: dim, Since: since}), dim, data)
		}
	}
	for range r.Intn(2) {
		if held.Depth == 1 {
			since = r.later(since)
		}
		r.part(api.Part{Depth: held.Depth + 1, Kind: api.PartData, Type: data, Since: since})
	}
}

// field is one of a type by chance; false, if that can't be one's.
func (r *dice) field(held api.Part, since int) (api.Part, bool) {
	i := r.Intn(len(r.s.Types))
	for r.s.Types[i].Depth > 1 {
		i--
	}
	n := r.s.Types[i]
	for k := i + 1; k < len(r.s.Types) && r.s.Types[k].Depth > 1; k++ {
		if r.s.Types[k].Kind == api.TypeSimple && r.s.Types[k].Length == 0 {
			return api.Part{}, false
		}
	}
	p := api.Part{Depth: held.Depth + 1, Kind: api.PartField, Type: i, Presence: api.Presence(r.Intn(2)), Size: n.Size, Since: since}
	if since > held.Since {
		p.Presence = api.Optional
	}
	if n.Presence == api.Constant {
		p.Presence, p.Const = api.Constant, slices.Clone(n.Const)
	}
	if n.Kind == api.TypeEnum && len(n.Values) > 0 && r.oneIn(2) {
		if v := n.Values[r.Intn(len(n.Values))]; v.Since <= since {
			p.Presence, p.Size, p.Const = api.Constant, 0, []uint64{v.Value}
		}
	}
	return p, true
}

// P10.1 to P10.4: of many schemas the three calls, and second ones, say the same; what is said gives the schema back; two texts are the same just if the schemas are.
func TestAgainstSecond(t *testing.T) {
	t.Parallel()
	met := map[api.Errno]int{}
	texts := map[string]api.Schema{}
	for seed := range int64(1000) {
		s := newDice(seed).schema()
		if e, n := schema.Valid(s); e != api.OK {
			t.Fatalf("seed %d: error %d, %d: %+v", seed, e, n, s)
		}
		out, e := hold(t, s)
		met[e]++
		if e != api.OK {
			continue
		}
		if other, twice := texts[out]; twice && !alike(other, s) {
			t.Fatalf("P10.4: one text for two: %s", out)
		}
		texts[out] = s
	}
	if met[api.OK] < 600 || met[api.ErrCanon] < 50 || len(met) != 2 {
		t.Errorf("met: %v", met)
	}
}

// spoilt is a schema with one thing changed by chance.
func (r *dice) spoilt(s api.Schema) api.Schema {
	s = copied(s)
	number := func(n *int) { *n += []int{-1, 1, 1, 2, 65535, -65536, 1 << 62, -1 << 62}[r.Intn(8)] }
	if r.oneIn(10) {
		number([]*int{&s.ID, &s.Version, &s.Header, (*int)(&s.Order)}[r.Intn(4)])
		return s
	}
	if len(s.Parts) > 0 && r.oneIn(2) {
		r.spoilPart(&s.Parts[r.Intn(len(s.Parts))], number)
		return s
	}
	r.spoilNode(&s.Types[r.Intn(len(s.Types))], number)
	return s
}

func (r *dice) spoilPart(p *api.Part, number func(n *int)) {
	switch r.Intn(12) {
	case 0:
		p.Name = []string{"", "other", "n1"}[r.Intn(3)]
	case 1:
		p.Const = append(p.Const, 1)
	case 2:
		if len(p.Const) > 0 {
			p.Const[0]++
		}
	default:
		number([]*int{&p.Depth, (*int)(&p.Kind), &p.ID, &p.Type, (*int)(&p.Presence), &p.Offset, &p.Size, &p.Block, &p.Since, &p.Deprecated}[r.Intn(10)])
	}
}

func (r *dice) spoilNode(n *api.TypeNode, number func(n *int)) {
	switch r.Intn(10) {
	case 0:
		n.Name = []string{"", "other", "n1", "uint8"}[r.Intn(4)]
	case 1:
		n.Const = append(n.Const, 0)
		n.Length++
	case 2:
		if len(n.Const) > 0 {
			n.Const[r.Intn(len(n.Const))] ^= 1
		}
	case 3:
		if len(n.Values) > 0 {
			v := &n.Values[r.Intn(len(n.Values))]
			switch r.Intn(3) {
			case 0:
				v.Name += "x"
			case 1:
				v.Value ^= 1
			case 2:
				number(&v.Since)
			}
		}
	case 4, 5:
		*[]*uint64{&n.Null, &n.Min, &n.Max}[r.Intn(3)] ^= 1 << r.Intn(9)
	default:
		number([]*int{&n.Depth, (*int)(&n.Kind), (*int)(&n.Prim), &n.Length, (*int)(&n.Presence), &n.Offset, &n.Size}[r.Intn(7)])
	}
}

// P10.1 to P10.5: of schemas that are changed in one thing: an error of schema.Valid, or another text.
func TestChangedSchemas(t *testing.T) {
	t.Parallel()
	met := map[api.Errno]int{}
	other := 0
	for seed := range int64(400) {
		r := newDice(seed)
		s := r.schema()
		out, e := canon.Print(s)
		for range 12 {
			changed := r.spoilt(s)
			now, f := hold(t, changed)
			met[f]++
			if e == api.OK && f == api.OK && (now == out) != alike(changed, s) {
				t.Fatalf("P10.4: %s\n%+v\n%s\n%+v", out, s, now, changed)
			}
			if e == api.OK && f == api.OK && now != out {
				other++
			}
		}
	}
	if other < 200 || met[api.OK] < 300 || met[api.ErrCanon] < 50 || len(met) < 15 {
		t.Errorf("met: %v, %d other texts", met, other)
	}
}

// P10.4: a text that says more than it need is printed as the one text of its schema.
func TestWordyTexts(t *testing.T) {
	for seed := range int64(100) {
		s := newDice(2*seed + 1).schema()
		out, e := canon.Print(s)
		if e != api.OK {
			t.Fatalf("seed %d: without a ref refused: %d", seed, e)
		}
		wordy := strings.NewReplacer(
			`<message name=`, "\n<!-- a message --><sbe:message description='m' name=", `</message>`, `</sbe:message>`,
			`<type name=`, "\n <type semanticType='t' characterEncoding='x' name=", `<types>`, `<types/><types> `, `</types>`, "</types>\t<types></types>",
			` id="`, ` id="00`, ` offset="`, ` offset="0`, ` length="`, ` length="000`,
			`<messageSchema `, "<?xml version=\"1.0\"?><!-- x --><messageSchema xmlns:sbe='y' semanticVersion='5' ",
		).Replace(out)
		loaded, e, at := schema.Load(wordy)
		if e != api.OK || !alike(loaded, s) {
			t.Fatalf("%s: error %d at %d", wordy, e, at)
		}
		if again, e := hold(t, loaded); e != api.OK || again != out {
			t.Fatalf("%s\nwant %s", again, out)
		}
	}
}
