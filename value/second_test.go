package value_test

import (
	"slices"
	"testing"

	"stencil/api"
	"stencil/ir"
	"stencil/order"
	"stencil/prim"
	"stencil/project"
	"stencil/value"
)

// A second one of each call, out of the chapter's words, one by one, with no regard to time.

// partsOf are the places of what stands in a tree, right inside the message or group at i.
func partsOf(f api.Form, i int) []int {
	var out []int
	for k := range ir.Parts(f, i) {
		if f.Tokens[k].Op != api.BeginField || len(slices.Collect(ir.Leaves(f, k))) > 0 {
			out = append(out, k)
		}
	}
	return out
}

// elements are, for each of a field's words, the place of its leaf.
func elements(f api.Form, i int) []int {
	var out []int
	for k := range ir.Leaves(f, i) {
		out = append(out, slices.Repeat([]int{k}, f.Tokens[k].Length)...)
	}
	return out
}

// nullsOf are a field's null words.
func nullsOf(f api.Form, i int) []uint64 {
	var out []uint64
	for _, k := range elements(f, i) {
		if f.Tokens[k-1].Op == api.BeginSet {
			out = append(out, 0)
		} else {
			out = append(out, f.Tokens[k].Null)
		}
	}
	return out
}

// block is a message or an entry that has begun, and what of it is still to come; or a group, whose next entry may come.
type block struct {
	place int
	depth int
	parts []int
	group bool
}

// may is a node that may stand somewhere, with the place of its token.
type may struct {
	kind  api.ValKind
	depth int
	name  string
	place int
}

// wanted are the nodes that may stand behind those by which what is open came to be, each with what is open when it has come.
func wanted(f api.Form, open []block) ([]may, [][]block) {
	var nodes []may
	var then [][]block
	for n := len(open) - 1; n >= 0; n-- {
		b := open[n]
		if b.group {
			nodes = append(nodes, may{api.ValEntry, b.depth + 1, "", b.place})
			then = append(then, append(slices.Clone(open[:n+1]), block{place: b.place, depth: b.depth + 1, parts: partsOf(f, b.place)}))
			continue
		}
		if len(b.parts) == 0 {
			continue
		}
		t := f.Tokens[b.parts[0]]
		rest := append(slices.Clone(open[:n]), block{place: b.place, depth: b.depth, parts: b.parts[1:]})
		node := may{api.ValField, b.depth + 1, t.Name, b.parts[0]}
		switch t.Op {
		case api.BeginGroup:
			node.kind = api.ValGroup
			rest = append(rest, block{place: b.parts[0], depth: b.depth + 1, group: true})
		case api.BeginData:
			node.kind = api.ValData
		}
		return append(nodes, node), append(then, rest)
	}
	return nodes, then
}

// missing tells whether something must come yet.
func missing(open []block) bool {
	return slices.ContainsFunc(open, func(b block) bool { return len(b.parts) > 0 })
}

// secondRead is Check, and the places of the nodes' tokens.
func secondRead(f api.Form, m []api.Val) (api.Errno, int, []int) {
	if e, _ := ir.Check(f); e != ok {
		return api.ErrTokens, -1, nil
	}
	var places []int
	var open []block
	entries := map[int]int{} // by the number of the group's node
	groups := []int{}        // the numbers of the groups' nodes that are open
	weight, all := 0, 0
	nodes, then := []may{{api.ValMessage, 1, f.Tokens[0].Name, 0}}, [][]block{{{depth: 1, parts: partsOf(f, 0)}}}
	for i, v := range m {
		which := slices.IndexFunc(nodes, func(x may) bool {
			return x.kind == v.Kind && x.depth == v.Depth && x.name == v.Name && (v.Kind == api.ValField || len(v.Words) == 0) && (v.Kind == api.ValData || v.Text == "")
		})
		if which < 0 {
			return api.ErrTree, i, nil
		}
		place := nodes[which].place
		t := f.Tokens[place]
		for len(groups) > 0 && m[groups[len(groups)-1]].Depth >= v.Depth {
			groups = groups[:len(groups)-1]
		}
		switch v.Kind {
		case api.ValMessage:
			weight += f.Head.Size + t.Full
		case api.ValField:
			want := elements(f, place)
			if len(v.Words) != len(want) {
				return api.ErrWords, i, nil
			}
			for n, k := range want {
				if !prim.Fits(f.Tokens[k].Prim, v.Words[n]) {
					return api.ErrFit, i, nil
				}
			}
		case api.ValGroup:
			groups = append(groups, i)
			weight += t.Size
		case api.ValEntry:
			own := groups[len(groups)-1]
			entries[own]++
			all++
			if uint64(entries[own]) > prim.Max(t.B.Prim) || all > api.MaxEntries {
				return api.ErrEntries, i, nil
			}
			weight += t.Full
		case api.ValData:
			if uint64(len(v.Text)) > prim.Max(t.A.Prim) {
				return api.ErrData, i, nil
			}
			weight += t.Size + len(v.Text)
		}
		if weight > api.MaxMessage {
			return api.ErrLong, i, nil
		}
		places = append(places, place)
		open = then[which]
		nodes, then = wanted(f, open)
	}
	if len(m) == 0 || missing(open) {
		return api.ErrTree, len(m), nil
	}
	return ok, 0, places
}

func secondSize(f api.Form, m []api.Val) (int, api.Errno) {
	e, _, places := secondRead(f, m)
	if e != ok {
		return 0, e
	}
	n := f.Head.Size
	for i, v := range m {
		t := f.Tokens[places[i]]
		switch v.Kind {
		case api.ValMessage, api.ValEntry:
			n += t.Block
		case api.ValGroup, api.ValData:
			n += t.Size + len(v.Text)
		}
	}
	return n, ok
}

// held are the numbers of the nodes right inside the one at i.
func held(m []api.Val, i int) []int {
	var out []int
	for k := i + 1; k < len(m) && m[k].Depth > m[i].Depth; k++ {
		if m[k].Depth == m[i].Depth+1 {
			out = append(out, k)
		}
	}
	return out
}

func secondNulls(f api.Form) ([]api.Val, api.Errno) {
	if e, _ := ir.Check(f); e != ok {
		return nil, api.ErrTokens
	}
	m := []api.Val{{Depth: 1, Name: f.Tokens[0].Name}}
	for _, k := range partsOf(f, 0) {
		m = append(m, nullAt(f, k, 2))
	}
	if e, _, _ := secondRead(f, m); e != ok {
		return nil, api.ErrLong
	}
	return m, ok
}

// nullAt is the node of the part at a place that nobody has set.
func nullAt(f api.Form, place, depth int) api.Val {
	v := api.Val{Depth: depth, Name: f.Tokens[place].Name}
	switch f.Tokens[place].Op {
	case api.BeginField:
		v.Kind, v.Words = api.ValField, nullsOf(f, place)
	case api.BeginGroup:
		v.Kind = api.ValGroup
	case api.BeginData:
		v.Kind = api.ValData
	}
	return v
}

// secondProject goes down the form as it is at the version to; what it finds of a name in the list lives at from.
func secondProject(f api.Form, m []api.Val, from, to int) ([]api.Val, api.Errno) {
	if e, _ := ir.Check(f); e != ok {
		return nil, api.ErrTokens
	}
	was, e := project.At(f, from)
	g, err := project.At(f, to)
	if e != ok || err != ok {
		return nil, api.ErrVersion
	}
	if e, _, _ := secondRead(was, m); e != ok {
		return nil, e
	}
	var out []api.Val
	var inside func(place, number int)
	inside = func(place, number int) {
		for _, k := range partsOf(g, place) {
			t := g.Tokens[k]
			found := slices.IndexFunc(held(m, number), func(n int) bool { return m[n].Name == t.Name })
			if found < 0 {
				out = append(out, nullAt(g, k, m[number].Depth+1))
				continue
			}
			n := held(m, number)[found]
			out = append(out, m[n])
			for _, entry := range held(m, n) {
				out = append(out, m[entry])
				inside(k, entry)
			}
		}
	}
	out = append(out, m[0])
	inside(0, 0)
	return out, ok
}

func secondCalls(f api.Form, m []api.Val) ([]api.Call, api.Errno) {
	if e, _, _ := secondRead(f, m); e != ok {
		return nil, e
	}
	var out []api.Call
	for i, v := range m {
		switch v.Kind {
		case api.ValField:
			out = append(out, api.Call{Kind: api.CallField, Name: v.Name, Words: v.Words})
		case api.ValGroup:
			out = append(out, api.Call{Kind: api.CallGroup, Name: v.Name, Count: len(held(m, i))})
		case api.ValEntry:
			out = append(out, api.Call{Kind: api.CallNext})
		case api.ValData:
			out = append(out, api.Call{Kind: api.CallData, Name: v.Name, Text: v.Text})
		}
	}
	return out, ok
}

// secondTree asks layer 14's machine where each call belongs, and puts nodes of nulls wherever a block begins.
func secondTree(f api.Form, cs []api.Call) ([]api.Val, api.Errno) {
	machine, e := order.New(f)
	if e != ok {
		return nil, api.ErrTokens
	}
	weight := f.Head.Size + f.Tokens[0].Full
	if weight > api.MaxMessage {
		return nil, api.ErrLong
	}
	m := []api.Val{{Depth: 1, Name: f.Tokens[0].Name}}
	depths := map[int]int{0: 1} // of the nodes of messages and entries, by the place of their token
	begun := 0                  // the number of the last one's node
	fields := func(place int) {
		begun = len(m) - 1
		for _, k := range partsOf(f, place) {
			if f.Tokens[k].Op == api.BeginField {
				m = append(m, nullAt(f, k, m[begun].Depth+1))
			}
		}
	}
	fields(0)
	for _, c := range cs {
		if e := machine.Step(c); e != ok {
			return nil, e
		}
		in := machine.Inside()
		place := ir.Find(f, in, c.Name)
		switch c.Kind {
		case api.CallField:
			want := elements(f, place)
			if len(c.Words) != len(want) {
				return nil, api.ErrWords
			}
			for n, k := range want {
				if !prim.Fits(f.Tokens[k].Prim, c.Words[n]) {
					return nil, api.ErrFit
				}
			}
			m[begun+1+slices.IndexFunc(m[begun+1:], func(v api.Val) bool { return v.Name == c.Name })].Words = c.Words
		case api.CallGroup:
			t := f.Tokens[place]
			weight += t.Size + c.Count*t.Full
			m = append(m, api.Val{Depth: depths[in] + 1, Kind: api.ValGroup, Name: c.Name})
			depths[place] = depths[in] + 2
		case api.CallNext:
			m = append(m, api.Val{Depth: depths[in], Kind: api.ValEntry})
			fields(in)
		case api.CallData:
			if uint64(len(c.Text)) > prim.Max(f.Tokens[place].A.Prim) {
				return nil, api.ErrData
			}
			weight += f.Tokens[place].Size + len(c.Text)
			m = append(m, api.Val{Depth: depths[in] + 1, Kind: api.ValData, Name: c.Name, Text: c.Text})
		}
		if weight > api.MaxMessage {
			return nil, api.ErrLong
		}
	}
	if !machine.Done() {
		return nil, api.ErrTree
	}
	return m, ok
}

func secondOdd(f api.Form, m []api.Val) []int {
	e, _, places := secondRead(f, m)
	if e != ok {
		return nil
	}
	var out []int
	for i, v := range m {
		if v.Kind != api.ValField {
			continue
		}
		odd := false
		for n, k := range elements(f, places[i]) {
			odd = odd || oddWord(f, places[i], k, v.Words[n])
		}
		if odd {
			out = append(out, i)
		}
	}
	return out
}

// oddWord asks the chapter's five rules, one by one.
func oddWord(f api.Form, field, leaf int, w uint64) bool {
	t, in := f.Tokens[leaf], f.Tokens[leaf-1]
	var choices []uint64
	if in.Op == api.BeginSet || in.Op == api.BeginEnum {
		for _, c := range f.Tokens[leaf+1 : in.Pair] {
			choices = append(choices, c.Value)
		}
	}
	if t.Prim == api.Float || t.Prim == api.Double {
		return false
	}
	if in.Op == api.BeginSet {
		for bit := range uint64(64) {
			if w>>bit&1 == 1 && !slices.Contains(choices, bit) {
				return true
			}
		}
		return false
	}
	if w == t.Null {
		return t.Prim != api.Char && f.Tokens[field].Presence != api.Optional && t.Presence != api.Optional
	}
	if in.Op == api.BeginEnum {
		return !slices.Contains(choices, w)
	}
	return prim.Compare(t.Prim, w, t.Min) == -1 || prim.Compare(t.Prim, w, t.Max) == 1
}

// hold holds all calls of a form and a list against the second ones, and tells whether it is a tree.
func hold(t testing.TB, f api.Form, m []api.Val) bool {
	t.Helper()
	e, at, _ := secondRead(f, m)
	if err, i := value.Check(f, m); err != e || i != at {
		t.Fatalf("P16.1: Check = %d, %d; want %d, %d\n%s%s", err, i, e, at, list(f), show(m))
	}
	n, e := value.Size(f, m)
	if size, err := secondSize(f, m); n != size || e != err {
		t.Fatalf("P16.4: Size = %d, %d; want %d, %d\n%s%s", n, e, size, err, list(f), show(m))
	}
	cs, e := value.Calls(f, m)
	if want, err := secondCalls(f, m); e != err || !sameCalls(cs, want) {
		t.Fatalf("P16.5: Calls: %d, want %d\n%s%s%swant\n%s", e, err, list(f), show(m), showCalls(cs), showCalls(want))
	}
	if got, want := value.Odd(f, m), secondOdd(f, m); !slices.Equal(got, want) {
		t.Fatalf("P16.7: Odd = %d, want %d\n%s%s", got, want, list(f), show(m))
	}
	return e == ok
}

// holdProject holds Project against the second one.
func holdProject(t testing.TB, f api.Form, m []api.Val, from, to int) ([]api.Val, api.Errno) {
	t.Helper()
	got, e := value.Project(f, m, from, to)
	if want, err := secondProject(f, m, from, to); e != err || !sameNodes(got, want) {
		t.Fatalf("P16.3: Project from %d to %d: %d, want %d\n%s%s\n%swant\n%s", from, to, e, err, list(f), show(m), show(got), show(want))
	}
	return got, e
}

// holdTree holds Tree against the second one, and tells whether it is one.
func holdTree(t testing.TB, f api.Form, cs []api.Call) bool {
	t.Helper()
	got, e := value.Tree(f, cs)
	if want, err := secondTree(f, cs); e != err || !sameNodes(got, want) {
		t.Fatalf("P16.6: Tree: %d, want %d\n%s%s\n%swant\n%s", e, err, list(f), showCalls(cs), show(got), show(want))
	}
	return e == ok
}

// P16.1 to P16.7 of what other tests have by hand.
func TestSecond(t *testing.T) {
	for _, x := range []struct {
		f    api.Form
		said string
	}{{chapter(t), chapterTree}, {wide(t), wideTree}, {leafy(t), leafyTree}, {grown(t), grownTrees()[5]}} {
		m := tree(x.said)
		if !hold(t, x.f, m) {
			t.Fatalf("no tree:\n%s", show(m))
		}
		for i := range m {
			hold(t, x.f, m[:i])
			hold(t, x.f, without(m, i))
			hold(t, x.f, put(m, i, m[i]))
			// Not each with each: the second ones take their time.
			for k := i % 4; k < len(m); k += 4 {
				hold(t, x.f, with(m, i, func(v *api.Val) { *v = m[k] }))
				hold(t, x.f, put(m, i, m[k]))
			}
		}
		cs, _ := value.Calls(x.f, m)
		for i := range cs {
			holdTree(t, x.f, cs[:i])
			holdTree(t, x.f, slices.Delete(slices.Clone(cs), i, i+1))
			for k := i % 2; k < len(cs); k += 2 {
				l := slices.Clone(cs)
				l[i] = cs[k]
				holdTree(t, x.f, l)
				holdTree(t, x.f, slices.Insert(slices.Clone(cs), i, cs[k]))
			}
		}
		got, e := value.Nulls(x.f)
		if want, err := secondNulls(x.f); e != err || !sameNodes(got, want) {
			t.Errorf("P16.2: Nulls: %d, want %d\n%s", e, err, show(got))
		}
	}
	hold(t, api.Form{}, nil)
	holdTree(t, api.Form{}, nil)
	holdProject(t, api.Form{}, nil, 0, 0)
}
