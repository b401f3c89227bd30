package value_test

import (
	"math"
	"slices"
	"strings"
	"testing"

	"stencil/api"
	"stencil/ir"
	"stencil/order"
	"stencil/project"
	"stencil/schema"
	"stencil/value"
)

// tree is one of a form by chance.
func (r *dice) tree(f api.Form) []api.Val {
	m := []api.Val{{Depth: 1, Name: f.Tokens[0].Name}}
	return r.inside(f, 0, m, 2)
}

// inside puts the parts of a message or entry.
func (r *dice) inside(f api.Form, place int, m []api.Val, depth int) []api.Val {
	for _, k := range partsOf(f, place) {
		v := nullAt(f, k, depth)
		switch v.Kind {
		case api.ValField:
			for n, leaf := range elements(f, k) {
				v.Words[n] = r.leafWord(f, leaf)
			}
		case api.ValData:
			v.Text = strings.Repeat("x", r.Intn(4)*r.Intn(3))
		}
		m = append(m, v)
		if v.Kind == api.ValGroup {
			for range r.Intn(3) * r.Intn(3) {
				m = append(m, api.Val{Depth: depth + 1, Kind: api.ValEntry})
				m = r.inside(f, k, m, depth+2)
				if len(m) > 80 {
					break
				}
			}
		}
	}
	return m
}

// leafWord is one that means something to the leaf, or any of its type.
func (r *dice) leafWord(f api.Form, leaf int) uint64 {
	t := f.Tokens[leaf]
	w := r.word(t.Prim)
	switch next := f.Tokens[leaf+1]; {
	case r.oneIn(4):
		return t.Null
	case next.Op == api.Choice && f.Tokens[leaf-1].Op == api.BeginSet && r.oneIn(2):
		return 1 << next.Value
	case next.Op == api.Choice && r.oneIn(2) && f.Tokens[leaf-1].Op == api.BeginEnum:
		return next.Value
	case r.oneIn(3):
		return []uint64{t.Min, t.Max}[r.Intn(2)]
	}
	return w
}

// other is a list with something changed.
func (r *dice) other(m []api.Val) []api.Val {
	m = copyOf(m)
	if len(m) == 0 {
		return []api.Val{{Depth: 1}}
	}
	i, k := r.Intn(len(m)), r.Intn(len(m))
	v := &m[i]
	switch r.Intn(13) {
	case 0:
		v.Depth = r.number(v.Depth)
	case 1:
		v.Kind = api.ValKind(r.number(int(v.Kind)))
	case 2:
		v.Name = m[k].Name
	case 3:
		v.Words = append(v.Words, uint64(r.Intn(3)))
	case 4:
		if len(v.Words) > 0 {
			v.Words = v.Words[:r.Intn(len(v.Words))]
		}
	case 5, 6:
		if len(v.Words) > 0 {
			v.Words[r.Intn(len(v.Words))] = []uint64{r.Uint64(), 1 << r.Intn(64), 1<<r.Intn(64) - 1, -uint64(1 << r.Intn(64))}[r.Intn(4)]
		}
	case 7:
		v.Text = strings.Repeat("y", []int{1, 254, 255, 65534, 65535}[r.Intn(5)])
	case 8:
		m = without(m, i)
	case 9:
		m = put(m, i, m[k])
	case 10:
		m[i], m[k] = m[k], m[i]
	case 11: // what a node holds, away or elsewhere
		end := i + 1
		for end < len(m) && m[end].Depth > m[i].Depth {
			end++
		}
		some := slices.Clone(m[i:end])
		if r.oneIn(2) {
			m = slices.Delete(m, i, end)
		}
		if r.oneIn(2) {
			m = slices.Insert(m, r.Intn(len(m)+1), some...)
		}
	case 12:
		m = m[:i]
	}
	return m
}

// otherCalls are some with something changed.
func (r *dice) otherCalls(cs []api.Call) []api.Call {
	cs = slices.Clone(cs)
	if len(cs) == 0 {
		return []api.Call{{Kind: api.CallKind(r.Intn(6) - 1)}}
	}
	i, k := r.Intn(len(cs)), r.Intn(len(cs))
	c := &cs[i]
	switch r.Intn(10) {
	case 0:
		c.Kind = api.CallKind(r.number(int(c.Kind)))
	case 1:
		c.Name = cs[k].Name
	case 2:
		c.Words = append(slices.Clone(c.Words), 1)
	case 3:
		if len(c.Words) > 0 {
			c.Words = slices.Clone(c.Words)
			c.Words[r.Intn(len(c.Words))] = []uint64{r.Uint64(), 1 << r.Intn(64), 1<<r.Intn(64) - 1, 0}[r.Intn(4)]
		}
	case 4:
		c.Count = r.number(c.Count)
	case 5:
		c.Text = strings.Repeat("y", []int{1, 254, 255, 65534, 65535}[r.Intn(5)])
	case 6:
		cs = slices.Delete(cs, i, i+1)
	case 7:
		cs = slices.Insert(cs, i, cs[k])
	case 8: // fields again, and in another order
		if c.Kind == api.CallField && cs[k].Kind == api.CallField {
			cs[i], cs[k] = cs[k], cs[i]
			cs = slices.Insert(cs, i, cs[i], cs[k])
		}
	case 9:
		cs = cs[:i]
	}
	return cs
}

// follows asks of a form and a tree of it all that P16.9 says.
func follows(t testing.TB, f api.Form, m []api.Val) {
	t.Helper()
	cs, _ := value.Calls(f, m)
	if back, e := value.Tree(f, cs); e != ok || !sameNodes(back, m) {
		t.Fatalf("P16.9: Tree of Calls: %d\n%s%s%s", e, list(f), show(m), show(back))
	}
	machine, _ := order.New(f)
	for i, c := range cs {
		if e := machine.Step(c); e != ok {
			t.Fatalf("P16.9: call %d: %d\n%s", i, e, showCalls(cs))
		}
	}
	if !machine.Done() {
		t.Fatalf("P16.9: no whole message:\n%s%s", list(f), showCalls(cs))
	}
	if same := value.Same(m, copyOf(m)); !same {
		t.Fatal("P16.8: not the same as itself")
	}
	var empty []api.Call
	for _, k := range partsOf(f, 0) {
		switch f.Tokens[k].Op {
		case api.BeginGroup:
			empty = append(empty, api.Call{Kind: api.CallGroup, Name: f.Tokens[k].Name})
		case api.BeginData:
			empty = append(empty, api.Call{Kind: api.CallData, Name: f.Tokens[k].Name})
		}
	}
	nulls, e := value.Nulls(f)
	want, err := secondNulls(f)
	got, e2 := value.Tree(f, empty)
	if e != err || e2 != e || !sameNodes(nulls, want) || !sameNodes(got, nulls) {
		t.Fatalf("P16.2, P16.9: Nulls: %d, %d, want %d\n%s%s", e, e2, err, list(f), show(nulls))
	}
}

// versions projects a tree of each version to each other one, by way of each.
func versions(t testing.TB, r *dice, f api.Form) int {
	t.Helper()
	n := 0
	first := f.Tokens[0].Since
	for u := first; u <= f.Version; u++ {
		was, _ := project.At(f, u)
		m := r.tree(was)
		if !hold(t, was, m) {
			t.Fatalf("the dice: no tree:\n%s%s", list(was), show(m))
		}
		for v := first; v <= f.Version; v++ {
			between, e := holdProject(t, f, m, u, v)
			if u == v && (e != ok || !sameNodes(between, m)) {
				t.Fatalf("P16.9: from %d to itself: %d\n%s%s", u, e, show(m), show(between))
			}
			for w := first; w <= f.Version; w++ {
				got, _ := holdProject(t, f, between, v, w)
				want, _ := holdProject(t, f, m, u, w)
				if v >= min(u, w) && !sameNodes(got, want) {
					t.Fatalf("P16.9: from %d by %d to %d\n%s%s\n%swant\n%s", u, v, w, list(f), show(m), show(got), show(want))
				}
				n++
			}
		}
		l := r.other(m)
		for _, pair := range [][2]int{{u, f.Version}, {u, first - 1}, {f.Version + 1, u}, {u, first}, {r.Intn(6), r.Intn(6)}} {
			holdProject(t, f, l, pair[0], pair[1])
			holdProject(t, f, m, pair[0], pair[1])
		}
	}
	return n
}

// P16.1 to P16.9 of forms and trees by chance, and of changes of both.
func TestRandomTrees(t *testing.T) {
	r := newDice(16)
	trees, none, made, refused := 0, 0, 0, 0
	count := func(yes bool, a, b *int) {
		if yes {
			*a++
		} else {
			*b++
		}
	}
	for range 300 {
		f := r.form()
		for range 2 {
			m := r.tree(f)
			if !hold(t, f, m) {
				t.Fatalf("the dice: no tree:\n%s%s", list(f), show(m))
			}
			follows(t, f, m)
			cs, _ := value.Calls(f, m)
			for range 12 {
				l := r.other(m)
				if r.oneIn(4) {
					l = r.other(l)
				}
				if value.Same(l, m) != sameNodes(l, m) || value.Same(m, l) != sameNodes(l, m) {
					t.Fatalf("P16.8: Same: %v\n%s%s", value.Same(l, m), show(m), show(l))
				}
				count(hold(t, f, l), &trees, &none)
				ds := r.otherCalls(cs)
				for r.oneIn(2) {
					ds = r.otherCalls(ds)
				}
				count(holdTree(t, f, ds), &made, &refused)
			}
		}
	}
	if trees < 500 || none < 3000 || made < 1000 || refused < 2000 {
		t.Errorf("too few of a kind: %d trees, %d none, %d made, %d refused", trees, none, made, refused)
	}
}

// P16.1, P16.3, P16.6: forms with something changed, with trees of what they were.
func TestRandomForms(t *testing.T) {
	r := newDice(61)
	forms, none := 0, 0
	for range 400 {
		f := r.form()
		m := r.tree(f)
		cs, _ := value.Calls(f, m)
		for range 4 {
			g := r.turned(f)
			hold(t, g, m)
			holdTree(t, g, cs)
			holdProject(t, g, m, g.Version, r.Intn(6))
			e, _ := ir.Check(g)
			nulls, err := value.Nulls(g)
			if want, wanted := secondNulls(g); err != wanted || !sameNodes(nulls, want) {
				t.Fatalf("P16.2: Nulls: %d, want %d\n%s", err, wanted, list(g))
			}
			if e == ok {
				forms++
			} else {
				none++
			}
		}
	}
	if forms < 200 || none < 500 {
		t.Errorf("too few: %d forms, %d that are none", forms, none)
	}
}

// P16.3, P16.9: projections of forms by chance.
func TestRandomVersions(t *testing.T) {
	r := newDice(163)
	n := 0
	for n < 6000 {
		n += versions(t, r, r.form())
	}
}

// P16.1 to P16.9 of schemas by chance.
func TestRandomSchemas(t *testing.T) {
	r := newDice(161)
	forms := 0
	for forms < 60 {
		s := r.schema()
		if e, n := schema.Valid(s); e != ok {
			t.Fatalf("the dice: error %d, %d: %+v", e, n, s)
		}
		all, e := ir.All(s)
		if e != ok {
			t.Fatalf("All: error %d", e)
		}
		for _, f := range all {
			if len(f.Tokens) > 120 {
				continue
			}
			forms++
			m := r.tree(f)
			hold(t, f, m)
			follows(t, f, m)
			versions(t, r, f)
		}
	}
}

// P16.1, P16.10: nodes of any numbers and texts.
func TestAnyNodes(t *testing.T) {
	r := newDice(9)
	f := wide(t)
	any := func() api.Val {
		v := api.Val{Depth: r.number(2), Kind: api.ValKind(r.number(1)), Name: []string{"", "M", "a", "g", "\xff"}[r.Intn(5)]}
		if r.oneIn(2) {
			v.Words = r.words(api.Uint64, r.Intn(3))
		}
		if r.oneIn(3) {
			v.Text = string([]byte{byte(r.Intn(256)), 0})
		}
		return v
	}
	for range 2000 {
		var m []api.Val
		for range r.Intn(4) {
			m = append(m, any())
		}
		hold(t, f, m)
		hold(t, f, append(tree("M"), m...))
		holdProject(t, f, m, r.number(0), r.number(0))
	}
	for _, d := range []int{math.MinInt, math.MaxInt} {
		hold(t, f, []api.Val{{Depth: d, Kind: api.ValKind(d), Name: "M"}})
	}
}
