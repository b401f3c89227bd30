package evolve_test

import (
	"slices"
	"strings"
	"testing"

	"stencil/api"
	"stencil/evolve"
	"stencil/schema"
	"stencil/types"
)

// holders is the places of the parts that hold the one at i, the message's first, and its own.
func holders(parts []api.Part, i int) []int {
	places := []int{i}
	for k := i - 1; k >= 0; k-- {
		if parts[k].Depth < parts[places[0]].Depth {
			places = slices.Insert(places, 0, k)
		}
	}
	return places
}

func secondPath(parts []api.Part, i int) string {
	var names []string
	for _, k := range holders(parts, i) {
		names = append(names, parts[k].Name)
	}
	return strings.Join(names, ".")
}

func secondCame(parts []api.Part, i int) int {
	came := 0
	for _, k := range holders(parts, i) {
		came = max(came, parts[k].Since)
	}
	return came
}

// rightInside is the places of the parts one deeper than the one at i that it holds; of all messages, if i is -1.
func rightInside(parts []api.Part, i int) []int {
	depth := 0
	if i >= 0 {
		depth = parts[i].Depth
	}
	var places []int
	for k := i + 1; k < len(parts) && parts[k].Depth > depth; k++ {
		if parts[k].Depth == depth+1 {
			places = append(places, k)
		}
	}
	return places
}

// secondAt is At again, from the chapter's words.
func secondAt(s api.Schema, v int) (api.Schema, api.Errno) {
	if e, _ := schema.Valid(s); e != api.OK {
		return api.Schema{}, e
	}
	if v < 0 || v > s.Version {
		return api.Schema{}, api.ErrVersion
	}
	u := api.Schema{Package: s.Package, ID: s.ID, Order: s.Order, Header: s.Header, Version: v}
	for _, n := range s.Types {
		n.Values = slices.DeleteFunc(slices.Clone(n.Values), func(value api.Named) bool { return value.Since > v })
		u.Types = append(u.Types, n)
	}
	for i, p := range s.Parts {
		if secondCame(s.Parts, i) > v {
			continue
		}
		if p.Kind == api.PartMessage || p.Kind == api.PartGroup {
			inside := rightInside(s.Parts, i)
			later := slices.IndexFunc(inside, func(k int) bool {
				return s.Parts[k].Kind == api.PartField && s.Parts[k].Size > 0 && secondCame(s.Parts, k) > v
			})
			if later >= 0 {
				p.Block = s.Parts[inside[later]].Offset
			}
		}
		u.Parts = append(u.Parts, p)
	}
	return u, api.OK
}

func secondNews(s api.Schema, v int) ([]string, api.Errno) {
	if _, e := secondAt(s, v); e != api.OK {
		return nil, e
	}
	var out []string
	for i := range s.Parts {
		if secondCame(s.Parts, i) == v {
			out = append(out, secondPath(s.Parts, i))
		}
	}
	return out, api.OK
}

// heldNodes is the node at i and those that it holds.
func heldNodes(ts []api.TypeNode, i int) []api.TypeNode {
	out := []api.TypeNode{ts[i]}
	for k := i + 1; k < len(ts) && ts[k].Depth > ts[i].Depth; k++ {
		out = append(out, ts[k])
	}
	return out
}

func secondSameTypes(a, b []api.TypeNode) bool {
	if len(a) != len(b) {
		return false
	}
	for k := range a {
		x, y := a[k], b[k]
		for _, v := range x.Values {
			if !slices.Contains(y.Values, v) {
				return false
			}
		}
		if len(x.Const) != len(y.Const) || k > 0 && x.Name != y.Name {
			return false
		}
		for w := range x.Const {
			if x.Const[w] != y.Const[w] {
				return false
			}
		}
		type numbers struct {
			depth, length, offset, size int
			kind                        api.TypeKind
			prim                        api.Prim
			presence                    api.Presence
			null, min, max              uint64
		}
		if (numbers{x.Depth - a[0].Depth, x.Length, x.Offset, x.Size, x.Kind, x.Prim, x.Presence, x.Null, x.Min, x.Max}) !=
			(numbers{y.Depth - b[0].Depth, y.Length, y.Offset, y.Size, y.Kind, y.Prim, y.Presence, y.Null, y.Min, y.Max}) {
			return false
		}
	}
	return true
}

func secondPlace(parts []api.Part, path string) int {
	for i := range parts {
		if secondPath(parts, i) == path {
			return i
		}
	}
	return -1
}

// aheadInRow is how many members of the row of the part at i stand ahead of it and have their path among other parts; 0 of a field.
func aheadInRow(parts []api.Part, i int, others []api.Part) int {
	if parts[i].Kind == api.PartField {
		return 0
	}
	hold := holders(parts, i)
	n := 0
	for _, k := range rightInside(parts, hold[len(hold)-2]) {
		row := parts[k].Kind == api.PartGroup || parts[k].Kind == api.PartData
		if k < i && row && secondPlace(others, secondPath(parts, k)) >= 0 {
			n++
		}
	}
	return n
}

// secondBreaches is Breaches again, from the chapter's words.
func secondBreaches(a, b api.Schema) ([]api.Breach, api.Errno) {
	if e, _ := schema.Valid(a); e != api.OK {
		return nil, e
	}
	if e, _ := schema.Valid(b); e != api.OK {
		return nil, e
	}
	var out []api.Breach
	headA, _ := types.HeadOf(a.Types, a.Header)
	headB, _ := types.HeadOf(b.Types, b.Header)
	if a.Package != b.Package || a.ID != b.ID || a.Order != b.Order || headA != headB {
		out = append(out, api.Breach{Reason: 110})
	}
	if b.Version <= a.Version {
		return append(out, api.Breach{Reason: 111}), api.OK
	}
	c, _ := secondAt(b, a.Version)
	for i, p := range a.Parts {
		path := secondPath(a.Parts, i)
		k := secondPlace(c.Parts, path)
		if k < 0 {
			out = append(out, api.Breach{Reason: 112, Name: path})
			continue
		}
		q := c.Parts[k]
		if p.Kind != q.Kind || p.ID != q.ID || p.Presence != q.Presence || !slices.Equal(p.Const, q.Const) ||
			p.Kind != api.PartMessage && !secondSameTypes(heldNodes(a.Types, p.Type), heldNodes(c.Types, q.Type)) {
			out = append(out, api.Breach{Reason: 114, Name: path})
		}
		moved := p.Offset != q.Offset || p.Since != q.Since
		if p.Kind == api.PartGroup || p.Kind == api.PartData {
			moved = moved || aheadInRow(c.Parts, k, a.Parts) != aheadInRow(a.Parts, i, c.Parts)
		}
		if moved {
			out = append(out, api.Breach{Reason: 113, Name: path})
		}
		if p.Block != q.Block {
			out = append(out, api.Breach{Reason: 115, Name: path})
		}
	}
	for k := range c.Parts {
		if path := secondPath(c.Parts, k); secondPlace(a.Parts, path) < 0 {
			out = append(out, api.Breach{Reason: 116, Name: path})
		}
	}
	return out, api.OK
}

// hold asks the calls of two schemas, holds what they tell against second ones, and tells the breaches.
func hold(t *testing.T, a, b api.Schema) ([]api.Breach, api.Errno) {
	t.Helper()
	got, e := evolve.Breaches(a, b)
	want, f := secondBreaches(a, b)
	if e != f || !slices.Equal(got, want) {
		t.Fatalf("P11.3: Breaches: %s, error %d, want %s, error %d\n%+v\n%+v", told(got), e, told(want), f, a, b)
	}
	if evolve.Follows(a, b) != (f == api.OK && len(want) == 0) {
		t.Fatalf("P11.3: Follows: %v, with the breaches %s, error %d", evolve.Follows(a, b), told(want), f)
	}
	return got, e
}

// holdAt does so with the schema's versions, and some that it doesn't have.
func holdAt(t *testing.T, s api.Schema) {
	t.Helper()
	for v := -1; v <= min(max(s.Version, 0), 5)+1; v++ {
		u, e := evolve.At(s, v)
		want, f := secondAt(s, v)
		if e != f || !alike(u, want) {
			t.Fatalf("P11.1: At(%d): %+v, error %d\nwant %+v, error %d", v, u, e, want, f)
		}
		l, e := evolve.News(s, v)
		paths, f := secondNews(s, v)
		if e != f || !slices.Equal(l, paths) {
			t.Fatalf("P11.2: News(%d): %q, error %d, want %q, error %d", v, l, e, paths, f)
		}
	}
}

// told is breaches as words: the reason and the path, the next behind a comma.
func told(bs []api.Breach) string {
	words := map[api.Errno]string{api.ErrOther: "other", api.ErrOlder: "older", api.ErrGone: "gone", api.ErrMoved: "moved", api.ErrRetyped: "retyped", api.ErrShrunk: "shrunk", api.ErrNotNew: "not-new"}
	var out []string
	for _, b := range bs {
		out = append(out, strings.TrimSpace(words[b.Reason]+" "+b.Name))
	}
	return strings.Join(out, ", ")
}
