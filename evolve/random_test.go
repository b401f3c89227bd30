package evolve_test

import (
	"fmt"
	"math/rand"
	"slices"
	"testing"

	"stencil/api"
	"stencil/evolve"
	"stencil/prim"
	"stencil/schema"
	"stencil/types"
)

// dice makes schemas that are valid, and changes of them.
type dice struct {
	*rand.Rand
	names int
	s     api.Schema
}

func newDice(seed int64) *dice { return &dice{Rand: rand.New(rand.NewSource(seed))} }

func (r *dice) oneIn(n int) bool { return r.Intn(n) == 0 }

func (r *dice) name() string {
	r.names++
	return fmt.Sprintf("n%d", r.names)
}

// pick is the place of one by chance of those that fit; -1, if none does.
func pick[T any](r *dice, list []T, fits func(x T) bool) int {
	var places []int
	for i, x := range list {
		if fits(x) {
			places = append(places, i)
		}
	}
	if len(places) == 0 {
		return -1
	}
	return places[r.Intn(len(places))]
}

// node is a type, or a member, with what it holds.
func (r *dice) node(depth int) []api.TypeNode {
	name := r.name()
	switch r.Intn(7) {
	case 0:
		return []api.TypeNode{enum(depth, name, api.Uint8, r.values()...)}
	case 1:
		return []api.TypeNode{set(depth, name, api.Uint16, r.values()...)}
	case 2:
		return []api.TypeNode{fixed(depth, name, api.Char, 65, uint64(65+r.Intn(3)))}
	case 3:
		n := simple(depth, name, api.Int16, 1+r.Intn(2))
		n.Presence = api.Optional
		return []api.TypeNode{n}
	case 4, 5:
		if depth < 4 {
			return r.composite(depth, name)
		}
	}
	return []api.TypeNode{simple(depth, name, api.Prim(r.Intn(11)), 1)}
}

func (r *dice) composite(depth int, name string) []api.TypeNode {
	ns, end := []api.TypeNode{composite(depth, name, 0)}, 0
	for range r.Intn(4) {
		m := r.node(depth + 1)
		if m[0].Size > 0 {
			m[0].Offset = end + r.Intn(2)*r.Intn(3)
			end = m[0].Offset + m[0].Size
		}
		ns = append(ns, m...)
	}
	ns[0].Size = end
	return ns
}

// values are few enough to be bits of the smallest set.
func (r *dice) values() []api.Named {
	var out []api.Named
	for i := range r.Intn(4) {
		out = append(out, api.Named{Name: fmt.Sprintf("v%d", i), Value: uint64(i), Since: r.Intn(r.s.Version + 1)})
	}
	r.Shuffle(len(out), func(i, j int) { out[i], out[j] = out[j], out[i] })
	return out
}

// schema is a whole one of a version.
func (r *dice) schema(version int) api.Schema {
	r.s = api.Schema{Package: "p", ID: 1, Version: version, Types: types.Basic()}
	r.s.Header = len(r.s.Types)
	u16 := func(name string, offset int) api.TypeNode {
		n := simple(2, name, api.Uint16, 1)
		n.Offset = offset
		return n
	}
	data := simple(2, "varData", api.Char, 0)
	data.Offset = 2
	r.s.Types = append(r.s.Types, composite(1, "head", 8), u16("blockLength", 0), u16("templateId", 2), u16("schemaId", 4), u16("version", 6),
		composite(1, "dim", 4), u16("blockLength", 0), u16("numInGroup", 2), composite(1, "data", 2), u16("length", 0), data)
	for range 2 + r.Intn(5) {
		r.s.Types = append(r.s.Types, r.node(1)...)
	}
	for range 1 + r.Intn(3) {
		r.parts(r.part(-1, api.Part{Depth: 1, Kind: api.PartMessage, Since: r.Intn(version + 1)}))
	}
	return r.s
}

func place(s api.Schema, name string) int {
	return slices.IndexFunc(s.Types, func(n api.TypeNode) bool { return n.Depth == 1 && n.Name == name })
}

// part puts one more into the schema at a place; -1: at the end.
func (r *dice) part(i int, p api.Part) int {
	if i < 0 {
		i = len(r.s.Parts)
	}
	p.Name, p.Deprecated = r.name(), r.Intn(4)-1
	p.ID = r.names
	r.s.Parts = slices.Insert(r.s.Parts, i, p)
	return i
}

// parts puts what the message or group at i, the last part, holds.
func (r *dice) parts(i int) {
	held := r.s.Parts[i]
	since := held.Since
	for range r.Intn(4) {
		if r.oneIn(2) {
			since += r.Intn(r.s.Version - since + 1)
		}
		r.field(i, since)
	}
	if r.oneIn(3) {
		r.s.Parts[i].Block += r.Intn(4)
	}
	since = held.Since
	for _, kind := range [][]api.PartKind{{}, {api.PartGroup}, {api.PartGroup, api.PartGroup, api.PartData}, {api.PartGroup, api.PartData, api.PartData}, {api.PartData}}[r.Intn(5)] {
		if held.Depth == 1 {
			since += r.Intn(r.s.Version - since + 1)
		}
		if kind == api.PartData {
			r.part(-1, api.Part{Depth: held.Depth + 1, Kind: kind, Type: place(r.s, "data"), Since: since})
		} else if held.Depth < 4 {
			r.parts(r.part(-1, api.Part{Depth: held.Depth + 1, Kind: kind, Type: place(r.s, "dim"), Since: since}))
		}
	}
}

// field puts one more behind the fields of the message or group at i, and behind its block.
func (r *dice) field(i, since int) {
	held := r.s.Parts[i]
	k := pick(r, r.s.Types, func(n api.TypeNode) bool { return n.Depth == 1 && n.Name != "data" })
	n := r.s.Types[k]
	p := api.Part{Depth: held.Depth + 1, Kind: api.PartField, Type: k, Presence: api.Optional, Size: n.Size, Since: since}
	if since == held.Since {
		p.Presence = api.Presence(r.Intn(2))
	}
	if n.Presence == api.Constant {
		p.Presence, p.Const = api.Constant, slices.Clone(n.Const)
	}
	if v := pick(r, n.Values, func(v api.Named) bool { return v.Since <= since }); n.Kind == api.TypeEnum && v >= 0 && r.oneIn(2) {
		p.Presence, p.Size, p.Const = api.Constant, 0, []uint64{n.Values[v].Value}
	}
	if p.Size > 0 {
		p.Offset = held.Block
		if held.Since == since && r.oneIn(4) {
			p.Offset += r.Intn(3)
		}
		r.s.Parts[i].Block = p.Offset + p.Size
	}
	r.part(r.behindFields(i), p)
}

// behindFields is the place behind the last field of the message or group at i.
func (r *dice) behindFields(i int) int {
	i++
	for i < len(r.s.Parts) && r.s.Parts[i].Kind == api.PartField {
		i++
	}
	return i
}

// end is the place behind what the part at i holds.
func end(parts []api.Part, i int) int {
	k := i + 1
	for k < len(parts) && parts[k].Depth > parts[i].Depth {
		k++
	}
	return k
}

func holdsParts(p api.Part) bool { return p.Kind == api.PartMessage || p.Kind == api.PartGroup }

// grown is a schema a version, or some, further, with more, as the document allows it.
func (r *dice) grown(s api.Schema) api.Schema {
	r.s = copied(s)
	for range 1 + r.Intn(2) {
		r.s.Version++
		for range r.Intn(5) {
			r.grow()
		}
	}
	return r.s
}

func (r *dice) grow() {
	s := &r.s
	switch r.Intn(7) {
	case 0, 1: // a field
		if i := pick(r, s.Parts, holdsParts); i >= 0 {
			r.field(i, s.Version)
		}
	case 2: // a group or data
		if i := pick(r, s.Parts, func(p api.Part) bool { return p.Depth == 1 }); i >= 0 {
			r.lengthen(i)
		}
	case 3: // a message, somewhere
		i := pick(r, append(slices.Clone(s.Parts), api.Part{Depth: 1}), func(p api.Part) bool { return p.Depth == 1 })
		r.part(i, api.Part{Depth: 1, Kind: api.PartMessage, Since: s.Version})
	case 4: // a value
		if i := pick(r, s.Types, func(n api.TypeNode) bool { return n.Kind == api.TypeEnum || n.Kind == api.TypeSet }); i >= 0 {
			n := &s.Types[i]
			n.Values = slices.Insert(n.Values, r.Intn(len(n.Values)+1), api.Named{Name: r.name(), Value: uint64(len(n.Values)), Since: s.Version})
			if e, _ := schema.Valid(*s); e != api.OK { // a set has no more bits
				n.Values = slices.DeleteFunc(n.Values, func(v api.Named) bool { return v.Name == fmt.Sprintf("n%d", r.names) })
			}
		}
	case 5: // a type ahead of all others of its own, and another name
		ns := r.node(1)
		i := pick(r, append(slices.Clone(s.Types[11:]), api.TypeNode{Depth: 1}), func(n api.TypeNode) bool { return n.Depth == 1 }) + 11
		s.Types = slices.Insert(s.Types, i, ns...)
		r.shift(i, len(ns))
	case 6: // the Block
		if i := pick(r, s.Parts, func(p api.Part) bool { return holdsParts(p) && p.Since == s.Version }); i >= 0 {
			s.Parts[i].Block++
		}
	}
}

// lengthen puts a member behind the row of the message at i.
func (r *dice) lengthen(i int) {
	s := &r.s
	e := end(s.Parts, i)
	hasData := slices.ContainsFunc(s.Parts[i:e], func(p api.Part) bool { return p.Depth == 2 && p.Kind == api.PartData })
	if hasData || r.oneIn(2) {
		r.part(e, api.Part{Depth: 2, Kind: api.PartData, Type: place(*s, "data"), Since: s.Version})
		return
	}
	r.part(e, api.Part{Depth: 2, Kind: api.PartGroup, Type: place(*s, "dim"), Block: r.Intn(3), Since: s.Version})
}

// shift lets the places of types from i on be so many further.
func (r *dice) shift(i, by int) {
	if r.s.Header >= i {
		r.s.Header += by
	}
	for k := range r.s.Parts {
		if r.s.Parts[k].Type >= i {
			r.s.Parts[k].Type += by
		}
	}
}

// twisted is a schema with something changed that leaves it valid.
func (r *dice) twisted(s api.Schema) api.Schema {
	for {
		r.s = copied(s)
		r.twist()
		if e, _ := schema.Valid(r.s); e == api.OK {
			return r.s
		}
	}
}

func (r *dice) twist() {
	s := &r.s
	if len(s.Parts) == 0 {
		return
	}
	i := r.Intn(len(s.Parts))
	p := &s.Parts[i]
	switch r.Intn(13) {
	case 0:
		p.ID = 1000 + r.Intn(3)
	case 1:
		p.Name = fmt.Sprintf("n%d", r.Intn(r.names)+1)
	case 2:
		p.Since = r.Intn(s.Version + 1)
	case 3:
		p.Presence = api.Presence(r.Intn(2))
	case 4:
		p.Block += r.Intn(5) - 2
	case 5:
		r.move(i)
	case 6:
		r.retype(i)
	case 7: // gone
		s.Parts = slices.Delete(s.Parts, i, end(s.Parts, i))
	case 8:
		r.swap(i)
	case 9:
		r.turnKind(i)
	case 10, 11:
		r.twistNode(r.Intn(len(s.Types)-11) + 11)
	case 12:
		r.twistWhole()
	}
}

// move lets a field, and those behind it, lie elsewhere.
func (r *dice) move(i int) {
	by := r.Intn(3) - 1
	for k := i; k < len(r.s.Parts) && r.s.Parts[k].Kind == api.PartField; k++ {
		if r.s.Parts[k].Size > 0 {
			r.s.Parts[k].Offset += by
		}
	}
}

func (r *dice) retype(i int) {
	k := pick(r, r.s.Types, func(n api.TypeNode) bool { return n.Depth == 1 })
	p := &r.s.Parts[i]
	p.Type = k
	if p.Kind == api.PartField && p.Size > 0 {
		p.Size = r.s.Types[k].Size
	}
}

// swap puts a part, with what it holds, behind the next one that stands beside it.
func (r *dice) swap(i int) {
	ps := r.s.Parts
	m := end(ps, i)
	if m == len(ps) || ps[m].Depth != ps[i].Depth {
		return
	}
	e := end(ps, m)
	if r.oneIn(4) { // fields keep the places where they lie
		ps[i].Offset, ps[m].Offset = ps[m].Offset, ps[i].Offset
	}
	r.s.Parts = slices.Concat(ps[:i], ps[m:e], ps[i:m], ps[e:])
}

// turnKind makes a part one of another Kind, at a place where that may stand.
func (r *dice) turnKind(i int) {
	ps := r.s.Parts
	if ps[i].Depth == 1 {
		return
	}
	hold := holders(ps, i)
	holder := hold[len(hold)-2]
	p := ps[i]
	q := api.Part{Depth: p.Depth, Name: p.Name, ID: p.ID, Since: p.Since, Deprecated: p.Deprecated}
	ps = slices.Delete(ps, i, end(ps, i))
	at := holder + 1
	q.Kind = []api.PartKind{api.PartField, api.PartGroup, api.PartData}[r.Intn(3)]
	q.Type = place(r.s, []string{"", "uint8", "dim", "data"}[q.Kind])
	if q.Kind == api.PartField {
		q.Type = pick(r, r.s.Types, func(n api.TypeNode) bool { return n.Depth == 1 && n.Presence == api.Constant })
		if q.Type < 0 {
			return
		}
		q.Presence, q.Const = api.Constant, r.s.Types[q.Type].Const
	}
	for k := holder + 1; k < end(ps, holder); k = end(ps, k) {
		if ps[k].Kind < q.Kind || ps[k].Kind == q.Kind && r.oneIn(2) {
			at = end(ps, k)
		}
	}
	r.s.Parts = slices.Insert(ps, at, q)
}

func (r *dice) twistNode(i int) {
	n := &r.s.Types[i]
	switch r.Intn(9) {
	case 0:
		n.Name = r.name()
	case 1:
		n.Null ^= 1
	case 2:
		n.Min ^= 1
	case 3:
		n.Max ^= 1
	case 4:
		n.Presence = api.Presence(r.Intn(2))
	case 5:
		n.Offset += r.Intn(3) - 1
	case 6:
		p := api.Prim(r.Intn(11))
		if prim.Size(p) == prim.Size(n.Prim) {
			n.Prim = p
		}
	default:
		r.twistValue(n)
	}
}

func (r *dice) twistValue(n *api.TypeNode) {
	if len(n.Values) == 0 {
		return
	}
	k := r.Intn(len(n.Values))
	switch v := &n.Values[k]; r.Intn(5) {
	case 0:
		v.Name = r.name()
	case 1:
		v.Value ^= 8
	case 2:
		v.Since = r.Intn(r.s.Version + 1)
	case 3:
		n.Values = slices.Delete(n.Values, k, k+1)
	case 4:
		n.Values[0], n.Values[k] = n.Values[k], n.Values[0]
	}
}

func (r *dice) twistWhole() {
	s := &r.s
	switch r.Intn(5) {
	case 0:
		s.Package = "q"
	case 1:
		s.ID = 2
	case 2:
		s.Order = api.Big
	case 3:
		s.Version = max(0, s.Version+r.Intn(3)-1)
	case 4:
		head := s.Types[s.Header+1:]
		head[0].Name, head[1].Name = head[1].Name, head[0].Name
	}
}

// valid sees that what the dice made is a schema.
func valid(t *testing.T, seed int64, s api.Schema) api.Schema {
	t.Helper()
	if e, n := schema.Valid(s); e != api.OK {
		t.Fatalf("seed %d: error %d, %d: %+v", seed, e, n, s)
	}
	return s
}

// P11.1, P11.2, P11.4: of many schemas At and News, and second ones, tell the same; At of At; each follows what it was; the News together are the parts of At.
func TestVersionsOfMany(t *testing.T) {
	t.Parallel()
	changed := 0
	for seed := range int64(300) {
		r := newDice(seed)
		s := valid(t, seed, r.schema(r.Intn(5)))
		if r.oneIn(2) {
			s = valid(t, seed, r.grown(s))
		}
		holdAt(t, s)
		var news []string
		for v := range s.Version + 1 {
			u := valid(t, seed, at(t, s, v))
			if len(u.Parts) < len(s.Parts) {
				changed++
			}
			for w := range v + 1 {
				if !alike(at(t, u, w), at(t, s, w)) {
					t.Fatalf("P11.4: seed %d: At(At(s, %d), %d) isn't At(s, %d)", seed, v, w, w)
				}
			}
			if v < s.Version {
				breaks(t, fmt.Sprintf("seed %d, version %d", seed, v), u, s, "")
			} else if !alike(u, s) {
				t.Fatalf("P11.4: seed %d: at its own version another", seed)
			}
			came, _ := evolve.News(s, v)
			news = append(news, came...)
			var paths []string
			for i := range u.Parts {
				paths = append(paths, secondPath(u.Parts, i))
			}
			if got := slices.Sorted(slices.Values(news)); !slices.Equal(got, slices.Sorted(slices.Values(paths))) {
				t.Fatalf("P11.4: seed %d: the News up to %d are %q, the parts %q", seed, v, got, paths)
			}
		}
	}
	if changed < 500 {
		t.Errorf("only %d versions with less", changed)
	}
}

// P11.3: of many schemas and what has become of them Breaches, and a second one, tell the same; each reason is met often.
func TestBreachesOfMany(t *testing.T) {
	t.Parallel()
	met := map[api.Errno]int{}
	for seed := range int64(800) {
		r := newDice(seed)
		a := valid(t, seed, r.schema(r.Intn(4)))
		b := a
		if r.oneIn(2) {
			b = valid(t, seed, r.grown(a))
		}
		b = copied(b)
		b.Version++
		for range 4 {
			b = r.twisted(b)
			for _, two := range [][2]api.Schema{{a, b}, {b, a}} {
				found, _ := hold(t, two[0], two[1])
				for _, breach := range found {
					met[breach.Reason]++
				}
				if len(found) == 0 {
					met[api.OK]++
				}
			}
		}
	}
	for _, reason := range []api.Errno{api.OK, api.ErrOther, api.ErrOlder, api.ErrGone, api.ErrMoved, api.ErrRetyped, api.ErrShrunk, api.ErrNotNew} {
		if met[reason] < 200 {
			t.Errorf("reason %d was met %d times: %v", reason, met[reason], met)
		}
	}
}

// P11.4: what is grown follows, by one step and by more; whatever follows what follows another one follows that too.
func TestChains(t *testing.T) {
	t.Parallel()
	follow, parted := 0, 0
	for seed := range int64(400) {
		r := newDice(seed)
		a := valid(t, seed, r.schema(r.Intn(3)))
		b := valid(t, seed, r.grown(a))
		c := valid(t, seed, r.grown(b))
		for _, two := range [][2]api.Schema{{a, b}, {b, c}, {a, c}} {
			breaks(t, fmt.Sprintf("seed %d", seed), two[0], two[1], "")
		}
		for range 6 {
			x, y, z := a, b, c
			for _, s := range []*api.Schema{&x, &y, &z} {
				if r.oneIn(2) {
					*s = r.twisted(*s)
				}
			}
			if !evolve.Follows(x, y) || !evolve.Follows(y, z) {
				parted++
				continue
			}
			follow++
			if !evolve.Follows(x, z) {
				found, _ := evolve.Breaches(x, z)
				t.Fatalf("P11.4: seed %d: the third doesn't follow: %s", seed, told(found))
			}
		}
	}
	if follow < 300 || parted < 300 {
		t.Errorf("%d followed, %d didn't", follow, parted)
	}
}
