package paths_test

import (
	"slices"
	"strings"
	"testing"

	"stencil/api"
	"stencil/ir"
	"stencil/order"
	"stencil/paths"
	"stencil/prim"
)

// Second answers, out of the words of chapters 14 and 15: all calls from the first one on are gone through by the recursion that tells what a message wants.

// block is a message or group.
type block struct {
	place  int
	fields []string
	row    []int
}

// blocks are those of a form, by the places of their tokens.
func blocks(f api.Form) map[int]block {
	out := map[int]block{}
	for i, t := range f.Tokens {
		if t.Op != api.BeginMessage && t.Op != api.BeginGroup {
			continue
		}
		b := block{place: i}
		for k := range ir.Parts(f, i) {
			if f.Tokens[k].Op != api.BeginField {
				b.row = append(b.row, k)
			} else if len(slices.Collect(ir.Leaves(f, k))) > 0 {
				b.fields = append(b.fields, f.Tokens[k].Name)
			}
		}
		out[i] = b
	}
	return out
}

// reading goes through calls.
type reading struct {
	f       api.Form
	blocks  map[int]block
	calls   []api.Call
	taken   int
	entries int
	inside  int // the block of the last call that came
}

// ran tells that there are no more calls.
type ran struct{}

// wanted takes a call that must come here, and answers it.
func (r *reading) wanted(kind api.CallKind, name string) api.Call {
	if len(r.calls) == 0 {
		panic(ran{})
	}
	c := r.calls[0]
	if c.Kind != kind || kind != api.CallNext && c.Name != name {
		panic(api.ErrOrder)
	}
	r.pass()
	return c
}

func (r *reading) pass() {
	r.calls = r.calls[1:]
	r.taken++
}

// counted asks whether a group's count may be.
func (r *reading) counted(c api.Call, t api.Token) {
	r.taken-- // as long as it isn't taken
	if c.Count < 0 || uint64(c.Count) > prim.Max(t.B.Prim) {
		panic(api.ErrCount)
	}
	if r.entries += c.Count; r.entries > api.MaxEntries {
		panic(api.ErrEntries)
	}
	r.taken++
}

func (r *reading) run(b block) {
	r.inside = b.place
	for len(r.calls) > 0 && r.calls[0].Kind == api.CallField && slices.Contains(b.fields, r.calls[0].Name) {
		r.pass()
	}
	for _, k := range b.row {
		t := r.f.Tokens[k]
		if t.Op == api.BeginData {
			r.wanted(api.CallData, t.Name)
			r.inside = b.place
			continue
		}
		c := r.wanted(api.CallGroup, t.Name)
		r.inside = b.place
		r.counted(c, t)
		for range c.Count {
			r.wanted(api.CallNext, "")
			r.run(r.blocks[k])
		}
	}
}

// verdict is what is found of calls: the first one's error and its number, or the block in which they stand and whether they make a message.
type verdict struct {
	err    api.Errno
	at     int
	inside int
	done   bool
}

func second(f api.Form, bs map[int]block, cs []api.Call) (v verdict) {
	r := &reading{f: f, blocks: bs, calls: cs}
	defer func() {
		switch x := recover().(type) {
		case nil:
		case ran:
			v = verdict{inside: r.inside}
		case api.Errno:
			v = verdict{err: x, at: r.taken}
		default:
			panic(x)
		}
	}()
	r.run(bs[0])
	if len(r.calls) > 0 {
		return verdict{err: api.ErrOrder, at: r.taken}
	}
	return verdict{inside: r.inside, done: true}
}

// tried are the calls that are tried of a form: each Kind with each name that something has, some that nothing has, and counts.
func tried(f api.Form, counts ...int) []api.Call {
	names := []string{"", "none"}
	for _, t := range f.Tokens {
		if !slices.Contains(names, t.Name) {
			names = append(names, t.Name)
		}
	}
	out := []api.Call{next(), kind(-1, "a"), kind(4, "g")}
	for _, name := range names {
		out = append(out, field(name), data(name))
		for _, n := range counts {
			out = append(out, group(name, n))
		}
	}
	return out
}

// after is a list with one more call, in memory of its own.
func after(cs []api.Call, c api.Call) []api.Call { return append(slices.Clone(cs), c) }

// nextOf are the calls that may come, as words.
func nextOf(f api.Form, bs map[int]block, cs, candidates []api.Call) string {
	var out []api.Call
	for _, name := range bs[second(f, bs, cs).inside].fields {
		if second(f, bs, after(cs, field(name))).err == ok {
			out = append(out, field(name))
		}
	}
	for _, c := range candidates {
		if second(f, bs, after(cs, c)).err != ok {
			continue
		}
		c.Count = 0
		if !strings.Contains(" "+say(out)+" ", " "+say([]api.Call{c})+" ") {
			out = append(out, c)
		}
	}
	return say(out)
}

// shortestOf is the way of the recursion that takes no count but 0: the one call that is no field's, until nothing is left.
func shortestOf(f api.Form, bs map[int]block, cs, candidates []api.Call) string {
	var out []api.Call
	for !second(f, bs, slices.Concat(cs, out)).done {
		i := slices.IndexFunc(candidates, func(c api.Call) bool {
			return c.Kind != api.CallField && c.Count == 0 && second(f, bs, slices.Concat(cs, out, []api.Call{c})).err == ok
		})
		out = append(out, candidates[i])
	}
	return say(out)
}

// anyShorter tells whether less than n calls make a message, whatever calls they are.
func anyShorter(f api.Form, bs map[int]block, cs, candidates []api.Call, n int) bool {
	v := second(f, bs, cs)
	if v.err != ok || n == 0 {
		return false
	}
	return v.done || slices.ContainsFunc(candidates, func(c api.Call) bool { return anyShorter(f, bs, after(cs, c), candidates, n-1) })
}

// brute counts ways by trying them all.
func brute(t testing.TB, f api.Form, cs []api.Call, n, most int) int {
	t.Helper()
	m, e := order.New(f)
	if e != ok {
		t.Fatalf("no form: %d", e)
	}
	for i, c := range cs {
		if e := m.Step(c); e != ok {
			t.Fatalf("call %d: error %d", i, e)
		}
	}
	candidates := tried(f, []int{0, 1, 2, 3}[:most+1]...)
	var count func(m *order.Machine, n int) int
	count = func(m *order.Machine, n int) int {
		if n == 0 {
			return 1
		}
		sum := 0
		for _, c := range candidates {
			if further := m.Copy(); further.Step(c) == ok {
				sum += count(further, n-1)
			}
		}
		return sum
	}
	return count(m, n)
}

func counted(t testing.TB, f api.Form, cs []api.Call, n, most int) int {
	t.Helper()
	got, e := paths.Count(f, cs, n, most)
	if e != ok {
		t.Fatalf("P15.4: Count of %.300s, %d, %d: error %d", say(cs), n, most, e)
	}
	return got
}

// summed is what Count must be by P15.6: the sum of the Counts behind each further call.
func summed(t testing.TB, f api.Form, cs []api.Call, n, most int) int {
	t.Helper()
	if n == 0 {
		return 1
	}
	calls, e := paths.Next(f, cs)
	if e != ok {
		t.Fatalf("P15.2: Next of %.300s: error %d", say(cs), e)
	}
	sum := 0
	for _, c := range calls {
		for count := range most + 1 {
			c.Count = count
			further := after(cs, c)
			if e, _ := paths.Accepts(f, further); e == ok {
				sum += counted(t, f, further, n-1, most)
			}
			if c.Kind != api.CallGroup {
				break
			}
		}
	}
	return sum
}

// agree holds what is asked behind calls against the second answers; those of the calls that are taken are answered.
func agree(t testing.TB, f api.Form, bs map[int]block, cs, candidates []api.Call) []api.Call {
	t.Helper()
	v := second(f, bs, cs)
	if e, at := paths.Accepts(f, cs); e != v.err || at != v.at {
		t.Fatalf("P15.1: Accepts of %s = %d, %d; want %d, %d\n%s", say(cs), e, at, v.err, v.at, list(f))
	}
	got, e := paths.Next(f, cs)
	if want := nextOf(f, bs, cs, candidates); e != ok || say(got) != want {
		t.Fatalf("P15.2: Next of %s = %s, %d; want %s\n%s", say(cs), say(got), e, want, list(f))
	}
	rest, e := paths.Shortest(f, cs)
	if want := shortestOf(f, bs, cs, candidates); e != ok || say(rest) != want || !second(f, bs, slices.Concat(cs, rest)).done {
		t.Fatalf("P15.3: Shortest of %s = %s, %d; want %s\n%s", say(cs), say(rest), e, want, list(f))
	}
	var taken []api.Call
	for _, c := range candidates {
		further := after(cs, c)
		want := second(f, bs, further)
		if e, at := paths.Accepts(f, further); e != want.err || at != want.at {
			t.Fatalf("P15.1: Accepts of %s = %d, %d; want %d, %d\n%s", say(further), e, at, want.err, want.at, list(f))
		}
		// P15.6: a call is one of Next's just if it may come.
		may := slices.ContainsFunc(got, func(n api.Call) bool { return n.Kind == c.Kind && n.Name == c.Name })
		if want.err == ok && !may || c.Count == 0 && may && want.err != ok {
			t.Fatalf("P15.6: behind %s: Next has %s: %v; error %d\n%s", say(cs), say(further[len(cs):]), may, want.err, list(f))
		}
		if want.err == ok {
			taken = append(taken, c)
			continue
		}
		if got, e := paths.Next(f, further); e != api.ErrWord || len(got) != 0 {
			t.Fatalf("P15.2: Next of %s = %s, %d", say(further), say(got), e)
		}
	}
	return taken
}

// P15.1 to P15.4, P15.6: of small forms all calls behind all calls, up to so many.
func TestAllFronts(t *testing.T) {
	for _, x := range []struct {
		form string
		n    int
	}{
		{"", 2}, {"a", 3}, {"k!", 2}, {"a b", 3}, {"d$", 3}, {"a d$ e$", 4}, {"g( ;", 6}, {"g( x ;", 5}, {"g( ; d$", 6}, {chapter, 5}, {"a g( a ; h( a ;", 5},
		{"g( h( ; ;", 6}, {"g( g( g( ; ; ;", 6}, {"g( h( e$ ; ; d$", 6}, {"g( x h( y ; e$ ;", 6}, {"g( h( ; i( ; ; j( ;", 6},
	} {
		f := made(t, x.form)
		bs, candidates := blocks(f), tried(f, -1, 0, 1, 2, 255)
		var walk func(cs []api.Call)
		walk = func(cs []api.Call) {
			taken := agree(t, f, bs, cs, candidates)
			rest, _ := paths.Shortest(f, cs)
			if len(cs) < 3 && len(rest) < 5 && anyShorter(f, bs, cs, taken, len(rest)) {
				t.Errorf("P15.3: %s: there is a shorter way than %s behind %s", x.form, say(rest), say(cs))
			}
			for n := range 4 {
				wantCount(t, f, cs, n, n, brute(t, f, cs, n, n))
			}
			if len(cs) == x.n {
				return
			}
			for _, c := range taken {
				walk(after(cs, c))
			}
		}
		walk(nil)
		for n := range 8 {
			for most := range 4 {
				wantCount(t, f, nil, n, most, brute(t, f, nil, n, most))
			}
		}
	}
}

// walks are all messages of a block without fields, by the recursion.
func walks(f api.Form, bs map[int]block, b block, most int) [][]api.Call {
	lists := [][]api.Call{nil}
	times := func(more [][]api.Call) {
		var out [][]api.Call
		for _, one := range lists {
			for _, two := range more {
				out = append(out, slices.Concat(one, two))
			}
		}
		lists = out
	}
	for _, k := range b.row {
		t := f.Tokens[k]
		if t.Op == api.BeginData {
			times([][]api.Call{{data(t.Name)}})
			continue
		}
		entry := walks(f, bs, bs[k], most)
		for i := range entry {
			entry[i] = slices.Concat([]api.Call{next()}, entry[i])
		}
		ahead := lists
		var out [][]api.Call
		for count := range most + 1 {
			lists = ahead
			times([][]api.Call{{group(t.Name, count)}})
			for range count {
				times(entry)
			}
			out = append(out, lists...)
		}
		lists = out
	}
	return lists
}

// size is how many lists there are, or a number above 4000.
func size(f api.Form, bs map[int]block, b block, most int) int {
	n := 1
	for _, k := range b.row {
		if f.Tokens[k].Op == api.BeginData {
			continue
		}
		entry, sum, product := size(f, bs, bs[k], most), 1, 1
		for range most {
			product = min(product*entry, 4001)
			sum += product
		}
		n = min(n*sum, 4001)
	}
	return n
}

// counts are those of the groups that a list calls.
func counts(cs []api.Call) []int {
	var out []int
	for _, c := range cs {
		if c.Kind == api.CallGroup {
			out = append(out, c.Count)
		}
	}
	return out
}

// agreeWalk holds a walk against the second one, if there are not too many lists.
func agreeWalk(t testing.TB, f api.Form, bs map[int]block, most int) bool {
	t.Helper()
	if size(f, bs, bs[0], most) > 4000 {
		follows(t, f, bs, most, 300)
		return false
	}
	want := walks(f, bs, bs[0], most)
	slices.SortStableFunc(want, func(a, b []api.Call) int { return slices.Compare(counts(a), counts(b)) })
	n := 0
	for cs := range paths.Walk(f, most) {
		if n == len(want) || say(cs) != say(want[n]) {
			t.Fatalf("P15.5: list %d of %d: %s\n%s", n, most, say(cs), list(f))
		}
		n++
	}
	if n != len(want) {
		t.Fatalf("P15.5: %d lists, want %d\n%s", n, len(want), list(f))
	}
	return true
}

// follows asks of the first lists whether each is a message, and the one behind it that which comes next: it has one entry more at some group, none at those behind that, and the one ahead has most at those.
func follows(t testing.TB, f api.Form, bs map[int]block, most, n int) {
	t.Helper()
	var last []int
	for cs := range paths.Walk(f, most) {
		now := counts(cs)
		v := second(f, bs, cs)
		if !v.done || slices.ContainsFunc(cs, func(c api.Call) bool { return c.Kind == api.CallField }) {
			t.Fatalf("P15.5: no message: %s\n%s", say(cs), list(f))
		}
		at := -1
		if last != nil {
			at = 0
			for at < len(last) && at < len(now) && last[at] == now[at] {
				at++
			}
			if at == len(last) || at == len(now) || now[at] != last[at]+1 || now[at] > most || slices.ContainsFunc(last[at+1:], func(c int) bool { return c != most }) {
				t.Fatalf("P15.5: %v behind %v\n%s", now, last, list(f))
			}
		}
		if slices.ContainsFunc(now[at+1:], func(c int) bool { return c != 0 }) {
			t.Fatalf("P15.5: %v behind %v\n%s", now, last, list(f))
		}
		last = now
		if n--; n == 0 {
			return
		}
	}
	if slices.ContainsFunc(last, func(c int) bool { return c != most }) {
		t.Fatalf("P15.5: the last one is %v\n%s", last, list(f))
	}
}

// P15.5: all lists of small forms.
func TestAllWalks(t *testing.T) {
	for _, words := range []string{"", "a", "d$", "g( ;", "g( x ; d$", chapter, parted, "g( ; h( ; i( ;", "g( h( ; ;", "g( h( i( ; ; ;", "g( h( ; i( ; ; j( ;", "g( h( e$ ; e$ ; h( g( ; d$ ; e$", "g( g( ; e$ ; e$ d$", many(6, "g#( ;"), many(3, "g#( h( ; ;"), many(40, "g#( h( ; ;") + many(40, "d#$")} {
		f := made(t, words)
		bs := blocks(f)
		for most := range 4 {
			agreeWalk(t, f, bs, most)
			follows(t, f, bs, most, 3000)
		}
	}
}
