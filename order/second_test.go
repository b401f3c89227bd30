package order_test

import (
	"fmt"
	"math/rand"
	"slices"
	"strings"
	"testing"

	"stencil/api"
	"stencil/ir"
	"stencil/order"
	"stencil/prim"
)

// A second machine, out of the chapter's words: all calls from the first one on are gone through by the recursion that tells what a message wants.

// block is a message or group, as the chapter's Words tell it.
type block struct {
	place  int
	fields []string
	row    []int
}

// blocks are those of a form, by the places of their tokens.
func blocks(f api.Form) map[int]block {
	out := map[int]block{}
	for i, t := range f.Tokens {
		if t.Op != api.BeginMessage && t.Op != api.BeginGroup {
			continue
		}
		b := block{place: i}
		for k := range ir.Parts(f, i) {
			if f.Tokens[k].Op != api.BeginField {
				b.row = append(b.row, k)
			} else if len(slices.Collect(ir.Leaves(f, k))) > 0 {
				b.fields = append(b.fields, f.Tokens[k].Name)
			}
		}
		out[i] = b
	}
	return out
}

// reading goes through calls.
type reading struct {
	f       api.Form
	blocks  map[int]block
	calls   []api.Call
	left    []int // of the groups in which the recursion is
	entries int
	stood   string // where the last call that came is, in the recursion
}

// ran tells that there are no more calls.
type ran struct{}

// wanted takes a call that must come here, and answers it.
func (r *reading) wanted(kind api.CallKind, name string) api.Call {
	if len(r.calls) == 0 {
		panic(ran{})
	}
	c := r.calls[0]
	if c.Kind != kind || kind != api.CallNext && c.Name != name {
		panic(api.ErrOrder)
	}
	r.calls = r.calls[1:]
	return c
}

// stand marks where the recursion is.
func (r *reading) stand(inside int, left ...int) {
	r.stood = fmt.Sprint(inside, slices.Concat(r.left, left))
}

func (r *reading) run(b block) {
	for len(r.calls) > 0 && r.calls[0].Kind == api.CallField && slices.Contains(b.fields, r.calls[0].Name) {
		r.calls = r.calls[1:]
		r.stand(b.place)
	}
	for _, k := range b.row {
		t := r.f.Tokens[k]
		if t.Op == api.BeginData {
			r.wanted(api.CallData, t.Name)
			r.stand(b.place)
			continue
		}
		c := r.wanted(api.CallGroup, t.Name)
		if c.Count < 0 || uint64(c.Count) > prim.Max(t.B.Prim) {
			panic(api.ErrCount)
		}
		if r.entries += c.Count; r.entries > api.MaxEntries {
			panic(api.ErrEntries)
		}
		if c.Count == 0 {
			r.stand(b.place)
		} else {
			r.stand(b.place, c.Count)
		}
		for i := range c.Count {
			r.wanted(api.CallNext, "")
			r.left = append(r.left, c.Count-i-1)
			r.stand(k)
			r.run(r.blocks[k])
			r.left = r.left[:len(r.left)-1]
		}
	}
}

// second goes through calls: the error of the first that is refused, where it stands behind the last one, and whether that is a whole message.
func second(f api.Form, bs map[int]block, calls []api.Call) (err api.Errno, stood string, done bool) {
	r := &reading{f: f, blocks: bs, calls: calls}
	defer func() {
		switch x := recover().(type) {
		case nil:
			stood = r.stood
		case ran:
			err, stood, done = api.OK, r.stood, false
		case api.Errno:
			err, stood, done = x, "", false
		default:
			panic(x)
		}
	}()
	r.stand(0)
	r.run(bs[0])
	if len(r.calls) > 0 {
		return api.ErrOrder, "", false
	}
	return api.OK, r.stood, true
}

// all are the calls that are tried of a form: each Kind with each name that something has, some that nothing has, and counts.
func all(f api.Form, counts ...int) []api.Call {
	names := []string{"", "none"}
	for _, t := range f.Tokens {
		if !slices.Contains(names, t.Name) {
			names = append(names, t.Name)
		}
	}
	out := []api.Call{next(), kind(api.CallNext, f.Tokens[len(f.Tokens)/2].Name), kind(-1, "a"), kind(4, "g")}
	for _, name := range names {
		out = append(out, field(name), data(name))
		for _, n := range counts {
			out = append(out, group(name, n))
		}
	}
	return out
}

// agree asks a machine behind calls where it stands, and of every call whether it is taken: those that are refused of itself, since they make no difference; those that are taken are answered.
func agree(t testing.TB, f api.Form, bs map[int]block, m *order.Machine, came, tried []api.Call) []api.Call {
	t.Helper()
	check := func(m *order.Machine, came []api.Call) {
		t.Helper()
		e, stood, done := second(f, bs, came)
		if got := fmt.Sprint(m.Inside(), m.Left()); e != ok || got != stood || m.Done() != done {
			t.Fatalf("P14.3: behind %v: stands at %s, done %v; want %d, %s, %v\n%s", came, got, m.Done(), e, stood, done, list(f))
		}
	}
	check(m, came)
	var taken []api.Call
	for _, c := range tried {
		longer := append(slices.Clone(came), c)
		want, _, _ := second(f, bs, longer)
		n := m
		if want == ok {
			n = m.Copy()
			taken = append(taken, c)
		}
		if e := n.Step(c); e != want {
			t.Fatalf("P14.2: behind %v: Step(%v) = %d, want %d\n%s", came, c, e, want, list(f))
		}
		if want == ok {
			check(n, longer)
		} else if c.Kind != api.CallField {
			check(m, came)
		}
	}
	check(m, came)
	return taken
}

// P14.2, P14.3: of small forms all calls behind all calls, up to so many.
func TestAllFronts(t *testing.T) {
	for _, x := range []struct {
		form string
		n    int
	}{
		{"", 2}, {"a", 3}, {"k!", 2}, {"a b", 4}, {"d$", 3}, {"a d$ e$", 5}, {"g( ;", 6}, {"g( x ;", 6}, {"g( ; d$", 6}, {chapter, 6}, {"a g( a ; h( a ;", 6},
		{"g( h( ; ;", 7}, {"g( g( g( ; ; ;", 7}, {"g( h( e$ ; ; d$", 7}, {"g( x h( y ; e$ ;", 7}, {"g( h( ; i( ; ; j( ;", 7},
	} {
		f := made(t, x.form)
		bs, tried := blocks(f), all(f, -1, 0, 1, 2, 255)
		var walk func(m *order.Machine, came []api.Call)
		walk = func(m *order.Machine, came []api.Call) {
			taken := agree(t, f, bs, m, came, tried)
			if len(came) == x.n {
				return
			}
			for _, c := range taken {
				n := m.Copy()
				n.Step(c)
				walk(n, append(slices.Clone(came), c))
			}
		}
		walk(begin(t, f), nil)
	}
}

// spoken makes a message by the recursion.
type spoken struct {
	*rand.Rand
	f      api.Form
	blocks map[int]block
	calls  []api.Call
	most   int
}

func (s *spoken) say(b block) {
	for len(b.fields) > 0 && s.Intn(3) > 0 {
		s.calls = append(s.calls, field(b.fields[s.Intn(len(b.fields))]))
	}
	for _, k := range b.row {
		t := s.f.Tokens[k]
		if t.Op == api.BeginData {
			s.calls = append(s.calls, data(t.Name))
			continue
		}
		n := s.Intn(4) * s.Intn(2)
		if s.most -= n; s.most < 0 {
			n = 0
		}
		s.calls = append(s.calls, group(t.Name, n))
		for range n {
			s.calls = append(s.calls, next())
			s.say(s.blocks[k])
		}
	}
}

// message is a message of a form, of at most some 12 entries.
func message(r *rand.Rand, f api.Form) []api.Call {
	s := &spoken{Rand: r, f: f, blocks: blocks(f), most: 12}
	s.say(s.blocks[0])
	return s.calls
}

// P14.2, P14.3 and what follows: messages by chance, of forms by chance: every front of them is taken, and nothing else behind it; refused calls make no difference to the later ones.
func TestFrontsByChance(t *testing.T) {
	for seed := range int64(400) {
		r := newDice(seed)
		f := r.crowded(r.form())
		if e, i := ir.Check(f); e != ok {
			t.Fatalf("seed %d: no form: %d, %d\n%s", seed, e, i, list(f))
		}
		bs, tried := blocks(f), all(f, -1, 0, 1, 300)
		m := begin(t, f)
		said := message(r.Rand, f)
		for i, c := range said {
			if i < 40 {
				agree(t, f, bs, m, said[:i], tried)
			}
			if e := m.Step(c); e != ok {
				t.Fatalf("P14.2: seed %d: call %d of %v: error %d\n%s", seed, i, said, e, list(f))
			}
		}
		if !m.Done() {
			t.Fatalf("P14.3: seed %d: not done behind %v\n%s", seed, said, list(f))
		}
		// What follows: a machine that is done takes nothing but fields, and stays so.
		for _, c := range agree(t, f, bs, m, said, tried) {
			if c.Kind != api.CallField || !slices.Contains(bs[m.Inside()].fields, c.Name) {
				t.Errorf("seed %d: done, and takes %v", seed, c)
			}
			if n := m.Copy(); n.Step(c) != ok || !n.Done() {
				t.Errorf("seed %d: done no more behind %v", seed, c)
			}
		}
	}
}

// list is a form as lines, for faults to be seen.
func list(f api.Form) string {
	lines, e := ir.Show(f)
	return fmt.Sprint(e, "\n", strings.Join(lines, "\n"))
}

// P14.2: forms of schemas by chance, too.
func TestSchemasByChance(t *testing.T) {
	for seed := range int64(60) {
		r := newDice(seed)
		forms, e := ir.All(r.schema())
		if e != ok {
			t.Fatalf("seed %d: error %d", seed, e)
		}
		for _, f := range forms {
			f = r.crowded(f)
			bs, tried := blocks(f), all(f, 0, 2)
			m := begin(t, f)
			said := message(r.Rand, f)
			for i, c := range said {
				if i < 25 {
					agree(t, f, bs, m, said[:i], tried)
				}
				if e := m.Step(c); e != ok {
					t.Fatalf("P14.2: seed %d: call %d of %v: error %d\n%s", seed, i, said, e, list(f))
				}
			}
			agree(t, f, bs, m, said, tried)
		}
	}
}
