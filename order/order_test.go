package order_test

import (
	"fmt"
	"math"
	"slices"
	"strconv"
	"strings"
	"testing"

	"stencil/api"
	"stencil/ir"
	"stencil/order"
	"stencil/prim"
)

func spot(p api.Prim, offset int) api.Spot { return api.Spot{Prim: p, Offset: offset} }

// coding is the Encoding of one value of a primitive type.
func coding(name string, p api.Prim, offset int) api.Token {
	return api.Token{Op: api.Encoding, Name: name, Offset: offset, Size: prim.Size(p), Prim: p, Length: 1, Null: prim.Null(p), Min: prim.Min(p), Max: prim.Max(p)}
}

// fixed is a coding that takes no bytes.
func fixed(name string, p api.Prim, offset int, words ...uint64) api.Token {
	t := coding(name, p, offset)
	t.Size, t.Length, t.Presence, t.Const = 0, len(words), api.Constant, words
	return t
}

// around are tokens with the one that begins them, and the one that ends them.
func around(t api.Token, inside ...[]api.Token) []api.Token {
	return slices.Concat([]api.Token{t}, slices.Concat(inside...), []api.Token{{Op: t.Op + 1, Name: t.Name}})
}

// paired sets the Pairs of tokens by what is begun and ended.
func paired(tokens ...api.Token) []api.Token {
	tokens = slices.Clone(tokens)
	var open []int
	for i := range tokens {
		t := &tokens[i]
		t.Pair = i
		if t.Op >= api.Encoding || t.Op < 0 {
			continue
		}
		if t.Op%2 == 0 {
			open = append(open, i)
		} else if n := len(open) - 1; n >= 0 {
			t.Pair, tokens[open[n]].Pair, open = open[n], i, open[:n]
		}
	}
	return tokens
}

// maker makes a form of words.
type maker struct {
	tokens []api.Token
	open   []int
	id     int
}

func (k *maker) top() *api.Token { return &k.tokens[k.open[len(k.open)-1]] }

// field puts a field of a type behind those of its block.
func (k *maker) field(name string, held ...api.Token) {
	t := api.Token{Op: api.BeginField, Name: name, ID: k.id, Size: held[0].Size}
	if t.Size > 0 {
		t.Offset = k.top().Block
		k.top().Block += t.Size
		k.top().Full = k.top().Block
	}
	k.tokens = append(k.tokens, around(t, held)...)
}

// constant puts one that takes no bytes whatever its type is.
func (k *maker) constant(name string, held ...api.Token) {
	k.tokens = append(k.tokens, around(api.Token{Op: api.BeginField, Name: name, ID: k.id, Presence: api.Constant, Const: []uint64{1}}, held)...)
}

func (k *maker) begin(t api.Token) {
	k.open = append(k.open, len(k.tokens))
	k.tokens = append(k.tokens, t)
}

func (k *maker) end() {
	t := *k.top()
	k.open = k.open[:len(k.open)-1]
	k.tokens = append(k.tokens, api.Token{Op: t.Op + 1, Name: t.Name})
}

// put puts what a word says: a name alone is a field of uint8, one with ( [ or { behind it a group whose dimension counts by uint8, uint16 or uint32, up to a word ; and one with $ data. A field that no call names has ! (constant), = (constant, of a type that takes bytes), ? (a composite of constants) or ~ (a composite whose bytes no member takes); one with + has its one leaf deep inside.
func (k *maker) put(word string) {
	if word != ";" {
		k.id++
	}
	name, kind := word[:len(word)-1], word[len(word)-1:]
	u8, q := coding("uint8", api.Uint8, 0), fixed("q", api.Uint16, 0, 1, 2)
	composite := func(size int, held ...api.Token) []api.Token {
		return around(api.Token{Op: api.BeginComposite, Name: "C", Size: size}, held)
	}
	switch kind {
	case ";":
		k.end()
	case "(", "[", "{":
		b := api.Uint8 + api.Prim(strings.Index("([{", kind))
		k.begin(api.Token{Op: api.BeginGroup, Name: name, ID: k.id, Size: 7, A: spot(api.Uint16, 5), B: spot(b, 1)})
	case "$":
		k.tokens = append(k.tokens, around(api.Token{Op: api.BeginData, Name: name, ID: k.id, Size: 2, A: spot(api.Uint16, 0), Prim: api.Uint8})...)
	case "!":
		k.constant(name, fixed("uint8", api.Uint8, 0, 1))
	case "=":
		k.constant(name, around(api.Token{Op: api.BeginEnum, Name: "E", Size: 1}, []api.Token{u8, {Op: api.Choice, Name: "A", Value: 1}})...)
	case "?":
		k.field(name, composite(0, q)...)
	case "~":
		k.field(name, composite(3, slices.Concat([]api.Token{q}, composite(2, q), composite(0))...)...)
	case "+":
		k.field(name, composite(4, slices.Concat([]api.Token{q}, composite(3, append(composite(0, q), coding("leaf", api.Uint16, 0))...))...)...)
	default:
		k.field(word, u8)
	}
}

// made is a form of words, as put says.
func made(t testing.TB, words string) api.Form {
	t.Helper()
	k := &maker{id: 9}
	k.begin(api.Token{Op: api.BeginMessage, Name: "M", ID: 3})
	for _, word := range strings.Fields(words) {
		k.put(word)
	}
	k.end()
	f := api.Form{Order: api.Big, Schema: 9, Version: 1, Tokens: paired(k.tokens...),
		Head: api.Head{Size: 17, Block: spot(api.Uint32, 0), Template: spot(api.Uint32, 4), Schema: spot(api.Uint32, 8), Version: spot(api.Uint32, 13)}}
	if e, i := ir.Check(f); e != api.OK {
		t.Fatalf("%.200s: no form: %d, %d", words, e, i)
	}
	return f
}

func field(name string) api.Call             { return api.Call{Kind: api.CallField, Name: name} }
func group(name string, n int) api.Call      { return api.Call{Kind: api.CallGroup, Name: name, Count: n} }
func data(name string) api.Call              { return api.Call{Kind: api.CallData, Name: name} }
func next() api.Call                         { return api.Call{Kind: api.CallNext} }
func kind(k api.CallKind, s string) api.Call { return api.Call{Kind: k, Name: s} }

// call is one by a word: a name alone a field's, with = and a count a group's, with $ data's; > is the next entry.
func call(word string) api.Call {
	name, count, ok := strings.Cut(word, "=")
	switch {
	case ok:
		n, err := strconv.Atoi(count)
		if err != nil {
			panic(err)
		}
		return group(name, n)
	case word == ">":
		return next()
	case strings.HasSuffix(word, "$"):
		return data(word[:len(word)-1])
	}
	return field(word)
}

func calls(words string) []api.Call {
	var out []api.Call
	for _, word := range strings.Fields(words) {
		out = append(out, call(word))
	}
	return out
}

// begin is a new machine of a form.
func begin(t testing.TB, f api.Form) *order.Machine {
	t.Helper()
	m, e := order.New(f)
	if e != api.OK || m == nil {
		t.Fatalf("P14.1: New: error %d", e)
	}
	return m
}

// behind is a machine that has taken calls.
func behind(t testing.TB, f api.Form, words string) *order.Machine {
	t.Helper()
	m := begin(t, f)
	take(t, m, words)
	return m
}

func take(t testing.TB, m *order.Machine, words string) {
	t.Helper()
	for i, c := range calls(words) {
		if e := m.Step(c); e != api.OK {
			t.Fatalf("P14.2: %s: call %d: error %d", words, i, e)
		}
	}
}

// stands tells what a machine's calls answer: the name of what it is inside, what is left, and a point where it is done.
func stands(f api.Form, m *order.Machine) string {
	inside := f.Tokens[m.Inside()]
	if inside.Op != api.BeginMessage && inside.Op != api.BeginGroup {
		return fmt.Sprintf("inside %+v", inside)
	}
	out := inside.Name
	for _, n := range m.Left() {
		out += " " + strconv.Itoa(n)
	}
	if m.Done() {
		out += "."
	}
	return out
}

// row is a call, its error, and where the machine stands behind it.
type row struct {
	call string
	err  api.Errno
	want string
}

func play(t *testing.T, f api.Form, m *order.Machine, rows ...row) {
	t.Helper()
	for i, r := range rows {
		if e := m.Step(call(r.call)); e != r.err || stands(f, m) != r.want {
			t.Errorf("row %d: Step(%s) = %d, want %d; stands at %s, want %s", i, r.call, e, r.err, stands(f, m), r.want)
		}
	}
}

// The form of the chapter's examples.
const chapter = "a k! g( x e$ ; d$"

const (
	ok      = api.OK
	noOrder = api.ErrOrder
	noCount = api.ErrCount
	noMore  = api.ErrEntries
)

// Examples 1 to 3 of the chapter.
func TestChapter(t *testing.T) {
	f := made(t, chapter)
	m := begin(t, f)
	if m.Done() || m.Inside() != 0 || len(m.Left()) != 0 {
		t.Errorf("P14.1: a new one stands at %s", stands(f, m))
	}
	play(t, f, m, row{"a", ok, "M"}, row{"a", ok, "M"},
		row{"k", noOrder, "M"}, row{"x", noOrder, "M"}, row{">", noOrder, "M"}, row{"d$", noOrder, "M"}, row{"h=1", noOrder, "M"},
		row{"g=2", ok, "M 2"}, row{"a", noOrder, "M 2"}, row{"d$", noOrder, "M 2"},
		row{">", ok, "g 1"}, row{"x", ok, "g 1"}, row{">", noOrder, "g 1"}, row{"e$", ok, "g 1"}, row{"x", noOrder, "g 1"},
		row{">", ok, "g 0"}, row{"e$", ok, "g 0"}, row{">", noOrder, "g 0"},
		row{"d$", ok, "M."}, row{"a", noOrder, "M."}, row{"d$", noOrder, "M."})
}

// Example 4 of the chapter.
func TestChapterCounts(t *testing.T) {
	f := made(t, chapter)
	play(t, f, begin(t, f), row{"g=-1", noCount, "M"}, row{"g=255", noCount, "M"}, row{"g=254", ok, "M 254"})
	play(t, f, begin(t, f), row{"g=0", ok, "M"}, row{"d$", ok, "M."})
}

// Examples 5 and 6 of the chapter.
func TestChapterEnds(t *testing.T) {
	f := made(t, "a k!")
	m := begin(t, f)
	if stands(f, m) != "M." {
		t.Errorf("P14.3: a new one stands at %s", stands(f, m))
	}
	play(t, f, m, row{"a", ok, "M."}, row{"a", ok, "M."}, row{"k", noOrder, "M."}, row{">", noOrder, "M."})
	f = made(t, "a g( x ;")
	play(t, f, begin(t, f), row{"a", ok, "M"}, row{"g=2", ok, "M 2"}, row{"x", noOrder, "M 2"}, row{">", ok, "g 1"}, row{"x", ok, "g 1"},
		row{">", ok, "g 0."}, row{"x", ok, "g 0."}, row{"a", noOrder, "g 0."}, row{">", noOrder, "g 0."}, row{"x", ok, "g 0."}, row{"g=1", noOrder, "g 0."})
}

// P14.3: a message may be done from the beginning, behind a group without entries, and never ahead of its row's last.
func TestDone(t *testing.T) {
	for _, x := range []struct{ form, calls, want string }{
		{"", "", "M."}, {"k!", "", "M."}, {"a b", "b a b", "M."}, {"d$", "", "M"}, {"d$", "d$", "M."}, {"g( ;", "", "M"}, {"g( ;", "g=0", "M."},
		{"g( ;", "g=1", "M 1"}, {"g( ;", "g=1 >", "g 0."}, {"g( ; h( ;", "g=0", "M"}, {"g( ; h( ;", "g=1 >", "g 0"}, {"g( ; h( ;", "g=1 > h=0", "M."},
		{"g( h( ; ;", "g=1 >", "g 0"}, {"g( h( ; ;", "g=1 > h=0", "g 0."}, {"g( h( ; ;", "g=2 > h=0", "g 1"}, {"g( h( ; ;", "g=1 > h=2", "g 0 2"},
		{"g( h( ; ;", "g=1 > h=2 >", "h 0 1"}, {"g( h( ; ;", "g=1 > h=2 > >", "h 0 0."}, {"g( h( ; ;", "g=2 > h=1 >", "h 1 0"}, {"g( h( ; ;", "g=2 > h=1 > >", "g 0"},
		{"g( h( ; ;", "g=2 > h=1 > > h=1 >", "h 0 0."}, {"g( h( ; e$ ;", "g=1 > h=1 >", "h 0 0"}, {"g( h( ; e$ ;", "g=1 > h=1 > e$", "g 0."}, {"g( ; d$ e$", "g=1 > d$", "M"}, {"g( ; d$ e$", "g=1 > d$ e$", "M."},
	} {
		f := made(t, x.form)
		if got := stands(f, behind(t, f, x.calls)); got != x.want {
			t.Errorf("P14.3: %s: behind %s it stands at %s, want %s", x.form, x.calls, got, x.want)
		}
	}
}

// P14.2, P14.3: one call leaves the last entries of groups one inside the other.
func TestLeaves(t *testing.T) {
	f := made(t, "g( a h( b i( c j( x ; ; ; ; o( y ; d$")
	into := "g=2 > h=1 > i=2 > j=0 > j=1 >"
	play(t, f, behind(t, f, into), row{"x", ok, "j 1 0 0 0"}, row{"c", noOrder, "j 1 0 0 0"}, row{"o=1", noOrder, "j 1 0 0 0"}, row{"d$", noOrder, "j 1 0 0 0"},
		row{">", ok, "g 0"}, row{"x", noOrder, "g 0"}, row{"a", ok, "g 0"}, row{"h=2", ok, "g 0 2"}, row{">", ok, "h 0 1"}, row{"i=1", ok, "h 0 1 1"}, row{">", ok, "i 0 1 0"},
		row{"j=2", ok, "i 0 1 0 2"}, row{">", ok, "j 0 1 0 1"}, row{">", ok, "j 0 1 0 0"}, row{">", ok, "h 0 0"}, row{"i=1", ok, "h 0 0 1"}, row{">", ok, "i 0 0 0"},
		row{"j=1", ok, "i 0 0 0 1"}, row{">", ok, "j 0 0 0 0"}, row{">", noOrder, "j 0 0 0 0"}, row{"d$", noOrder, "j 0 0 0 0"}, row{"o=-1", noCount, "j 0 0 0 0"}, row{"o=255", noCount, "j 0 0 0 0"},
		row{"x", ok, "j 0 0 0 0"}, row{"o=1", ok, "M 1"}, row{"y", noOrder, "M 1"}, row{">", ok, "o 0"}, row{"y", ok, "o 0"}, row{"d$", ok, "M."})
}

// P14.2: a field that has no leaf is called by no call; nor is one of another block, nor what is no field.
func TestFields(t *testing.T) {
	f := made(t, "a k! c= n? p~ s+ g( a x k! s+ h( y e$ ; e$ ; d$")
	fields := func(m *order.Machine, want ...string) {
		t.Helper()
		at := stands(f, m)
		for _, name := range []string{"a", "k", "c", "n", "p", "s", "x", "y", "g", "h", "d", "e", "M", "C", "E", "A", "q", "leaf", "uint8", "", "A", "a ", "aa", "\x00", "\xff"} {
			e := ok
			if !slices.Contains(want, name) {
				e = noOrder
			}
			for range 2 {
				if got := m.Step(field(name)); got != e || stands(f, m) != at {
					t.Errorf("P14.2: at %s: field %q: error %d, want %d; then at %s", at, name, got, e, stands(f, m))
				}
			}
		}
	}
	m := begin(t, f)
	fields(m, "a", "s")
	for _, x := range []struct {
		call string
		want []string
	}{{"g=2", nil}, {">", []string{"a", "x", "s"}}, {"h=1", nil}, {">", []string{"y"}}, {"e$", nil}, {"e$", nil}, {">", []string{"a", "x", "s"}}, {"h=0", nil}, {"e$", nil}, {"d$", nil}} {
		take(t, m, x.call)
		fields(m, x.want...)
	}
}

// P14.2: groups and data by their Kind and Name, each once, in the row's order.
func TestRow(t *testing.T) {
	f := made(t, "a g( x ; h( g( x ; d$ ; d$ e$")
	m := begin(t, f)
	for _, x := range []string{"g=1", ">", "h=2", ">", "g=0", "d$", ">", "g=1", ">", "d$", "d$", "e$"} {
		at, right := stands(f, m), call(x)
		for _, name := range []string{"g", "h", "d", "e", "a", "x", "M", "", "G"} {
			for _, k := range []api.CallKind{api.CallGroup, api.CallData} {
				c := kind(k, name)
				if k == right.Kind && name == right.Name {
					continue
				}
				if e := m.Step(c); e != noOrder || stands(f, m) != at {
					t.Errorf("P14.2: ahead of %s: %+v: error %d; then at %s", x, c, e, stands(f, m))
				}
			}
		}
		if right.Kind != api.CallNext {
			if e := m.Step(next()); e != noOrder || stands(f, m) != at {
				t.Errorf("P14.2: ahead of %s: next: error %d", x, e)
			}
		}
		take(t, m, x)
	}
	if stands(f, m) != "M." {
		t.Errorf("P14.3: stands at %s", stands(f, m))
	}
}

// P14.2: a Kind that is none never may come.
func TestKinds(t *testing.T) {
	f := made(t, chapter)
	m := begin(t, f)
	for _, x := range []string{"a", "g=1", ">", "x", "e$", "d$"} {
		at := stands(f, m)
		for _, k := range []api.CallKind{-1, 4, 5, -4, 1 << 32, 1<<32 + 1, -1 << 32, math.MaxInt, math.MinInt, math.MaxInt - 3, math.MinInt + 1} {
			for _, name := range []string{"", "a", "g", "x", "e", "d"} {
				if e := m.Step(api.Call{Kind: k, Name: name, Count: 1}); e != noOrder || stands(f, m) != at {
					t.Errorf("P14.2: Kind %d: error %d; then at %s", k, e, stands(f, m))
				}
			}
		}
		take(t, m, x)
	}
}

// P14.2: of CallNext the Name isn't looked at; Words, Text and, but for a group, Count aren't.
func TestNotLookedAt(t *testing.T) {
	f := made(t, chapter)
	for _, name := range []string{"", "g", "x", "nothing", "\xff\x00", strings.Repeat("n", 100)} {
		for _, count := range []int{0, 1, -1, 70000, math.MaxInt, math.MinInt} {
			words, text := []uint64{1, 2, math.MaxUint64}, "any \xff"
			m := begin(t, f)
			for i, c := range []api.Call{
				{Kind: api.CallField, Name: "a", Words: words, Count: count, Text: text}, {Kind: api.CallField, Name: "a", Count: count},
				{Kind: api.CallGroup, Name: "g", Words: words, Count: 2, Text: text},
				{Kind: api.CallNext, Name: name, Words: words, Count: count, Text: text}, {Kind: api.CallField, Name: "x", Words: []uint64{}, Count: count, Text: text},
				{Kind: api.CallData, Name: "e", Words: words, Count: count, Text: strings.Repeat(text, 30000)},
				{Kind: api.CallNext, Name: name, Count: count}, {Kind: api.CallData, Name: "e", Count: count}, {Kind: api.CallData, Name: "d", Words: words, Count: count},
			} {
				if e := m.Step(c); e != ok {
					t.Fatalf("P14.2: %q, %d: call %d: error %d", name, count, i, e)
				}
			}
			if e := m.Step(api.Call{Kind: api.CallNext, Name: name, Count: count}); e != noOrder || stands(f, m) != "M." {
				t.Errorf("P14.2: %q, %d: one more: error %d; stands at %s", name, count, e, stands(f, m))
			}
		}
	}
}

// P14.2: what each dimension may tell.
func TestCounts(t *testing.T) {
	for _, x := range []struct {
		form string
		most int
	}{{"g( x ; d$", 254}, {"g[ x ; d$", 65534}, {"g{ x ; d$", 65536}} {
		f := made(t, x.form)
		m := begin(t, f)
		for _, n := range []int{-1, -2, -255, -256, -65536, -1 << 31, -1 << 32, math.MinInt, math.MinInt + 1} {
			if e := m.Step(group("g", n)); e != noCount || stands(f, m) != "M" {
				t.Errorf("P14.2: %s: count %d: error %d", x.form, n, e)
			}
		}
		for _, n := range []int{4294967295, 4294967296, 4294967297, 1 << 33, math.MaxInt, math.MaxInt - 1} {
			if e := m.Step(group("g", n)); e != noCount || stands(f, m) != "M" {
				t.Errorf("P14.2: %s: count %d: error %d", x.form, n, e)
			}
		}
		// Above what the dimension tells ErrCount is first, though that is too many too.
		beyond := noCount
		if x.most == api.MaxEntries {
			beyond = noMore
		}
		for _, n := range []int{x.most + 1, x.most + 2, 65537, 65538, 4294967294, 4294967293} {
			if e := m.Step(group("g", n)); e != beyond || stands(f, m) != "M" {
				t.Errorf("P14.2: %s: count %d: error %d, want %d", x.form, n, e, beyond)
			}
		}
		for _, n := range []int{0, 1, 2, x.most - 1, x.most} {
			want := "M"
			if n > 0 {
				want = fmt.Sprint("M ", n)
			}
			m := m.Copy()
			if e := m.Step(group("g", n)); e != ok || stands(f, m) != want {
				t.Errorf("P14.2: %s: count %d: error %d; stands at %s", x.form, n, e, stands(f, m))
			}
		}
		// A name that may not come is refused ahead of its count.
		for _, n := range []int{-1, 0, 255, 65537, math.MaxInt} {
			if e := m.Step(group("h", n)); e != noOrder {
				t.Errorf("P14.2: another group, count %d: error %d", n, e)
			}
		}
	}
	f := made(t, "g( ; h( ;")
	m := behind(t, f, "g=1")
	for _, n := range []int{-1, 0, 255, 65537, math.MinInt, math.MaxInt} {
		for _, name := range []string{"g", "h"} {
			if e := m.Step(group(name, n)); e != noOrder {
				t.Errorf("P14.2: %s too early, count %d: error %d", name, n, e)
			}
		}
	}
}

// P14.2: the counts of all groups come together, those whose entries are over too, and those that were refused not.
func TestEntries(t *testing.T) {
	f := made(t, "g[ ; h{ ; i[ ;")
	m := behind(t, f, "g=65534")
	for range 65534 {
		take(t, m, ">")
	}
	play(t, f, m, row{"h=3", noMore, "g 0"}, row{"h=65536", noMore, "g 0"}, row{"h=4294967294", noMore, "g 0"}, row{"h=4294967295", noCount, "g 0"}, row{"h=2", ok, "M 2"},
		row{">", ok, "h 1"}, row{">", ok, "h 0"}, row{"i=1", noMore, "h 0"}, row{"i=65534", noMore, "h 0"}, row{"i=65535", noCount, "h 0"}, row{"i=-1", noCount, "h 0"}, row{"i=0", ok, "M."})
	f = made(t, "g{ ; h{ ;")
	play(t, f, begin(t, f), row{"g=65537", noMore, "M"}, row{"g=65536", ok, "M 65536"})
	play(t, f, begin(t, f), row{"g=0", ok, "M"}, row{"h=65537", noMore, "M"}, row{"h=65536", ok, "M 65536"})
	// In one another: those of every entry count.
	f = made(t, "g[ h{ i( ; ; ; j{ ;")
	m = behind(t, f, "g=65530 > h=5 >")
	play(t, f, m, row{"i=2", noMore, "h 65529 4"}, row{"i=254", noMore, "h 65529 4"}, row{"i=255", noCount, "h 65529 4"}, row{"i=1", ok, "h 65529 4 1"}, row{">", ok, "i 65529 4 0"},
		row{">", ok, "h 65529 3"}, row{"i=1", noMore, "h 65529 3"}, row{"i=0", ok, "h 65529 3"}, row{">", ok, "h 65529 2"}, row{"i=0", ok, "h 65529 2"}, row{">", ok, "h 65529 1"}, row{"i=0", ok, "h 65529 1"},
		row{">", ok, "h 65529 0"}, row{"i=0", ok, "h 65529 0"}, row{">", ok, "g 65528"}, row{"h=1", noMore, "g 65528"}, row{"h=0", ok, "g 65528"})
	for range 65528 {
		take(t, m, "> h=0")
	}
	play(t, f, m, row{"j=1", noMore, "g 0"}, row{"j=65537", noMore, "g 0"}, row{"j=0", ok, "M."})
	// A count that was refused is none.
	m = behind(t, f, "g=65530 >")
	for range 100 {
		play(t, f, m, row{"h=7", noMore, "g 65529"})
	}
	play(t, f, m, row{"h=6", ok, "g 65529 6"})
}

// P14.4: each goes its own way, whichever of the two it is.
func TestCopy(t *testing.T) {
	f := made(t, "a g[ x h{ y e$ ; ; d$")
	all := strings.Fields("a g=3 > x h=2 > y e$ > e$ > h=0 > x h=1 > y e$ d$")
	for cut := range len(all) + 1 {
		for _, first := range []bool{true, false} {
			m := behind(t, f, strings.Join(all[:cut], " "))
			at := stands(f, m)
			n := m.Copy()
			if n == m || stands(f, n) != at {
				t.Fatalf("P14.4: cut %d: the copy stands at %s, want %s", cut, stands(f, n), at)
			}
			if first {
				m, n = n, m
			}
			// Ahead goes the one, then the other by itself, and meets what the one met.
			for i := cut; i < len(all); i++ {
				take(t, m, all[i])
				if stands(f, n) != at {
					t.Fatalf("P14.4: cut %d, behind %s: the other one stands at %s, want %s", cut, all[i], stands(f, n), at)
				}
			}
			for i := cut; i < len(all); i++ {
				take(t, n, all[i])
				if want := stands(f, behind(t, f, strings.Join(all[:i+1], " "))); stands(f, n) != want || stands(f, m) != "M." {
					t.Fatalf("P14.4: cut %d, behind %s: stands at %s, want %s; the other one at %s", cut, all[i], stands(f, n), want, stands(f, m))
				}
			}
		}
	}
	// Ways that part: each has its own counts and entries.
	m := behind(t, f, "g=65530 >")
	n := m.Copy()
	play(t, f, m, row{"h=6", ok, "g 65529 6"}, row{">", ok, "h 65529 5"}, row{"e$", ok, "h 65529 5"})
	play(t, f, n, row{"h=7", noMore, "g 65529"}, row{"h=5", ok, "g 65529 5"}, row{">", ok, "h 65529 4"}, row{"y", ok, "h 65529 4"})
	k := n.Copy()
	play(t, f, m, row{"y", noOrder, "h 65529 5"}, row{">", ok, "h 65529 4"})
	play(t, f, k, row{"y", ok, "h 65529 4"}, row{"e$", ok, "h 65529 4"}, row{"y", noOrder, "h 65529 4"})
	play(t, f, n, row{"y", ok, "h 65529 4"}, row{">", noOrder, "h 65529 4"})
}
