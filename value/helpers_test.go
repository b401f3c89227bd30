package value_test

import (
	"fmt"
	"slices"
	"strconv"
	"strings"
	"testing"

	"stencil/api"
	"stencil/ir"
	"stencil/prim"
	"stencil/value"
)

const ok = api.OK

func spot(p api.Prim, offset int) api.Spot { return api.Spot{Prim: p, Offset: offset} }

// around are tokens with the one that begins them, and the one that ends them.
func around(t api.Token, inside ...[]api.Token) []api.Token {
	return slices.Concat([]api.Token{t}, slices.Concat(inside...), []api.Token{{Op: t.Op + 1, Name: t.Name}})
}

// paired sets the Pairs of tokens by what is begun and ended.
func paired(tokens ...api.Token) []api.Token {
	tokens = slices.Clone(tokens)
	var open []int
	for i := range tokens {
		t := &tokens[i]
		t.Pair = i
		if t.Op >= api.Encoding || t.Op < 0 {
			continue
		}
		if t.Op%2 == 0 {
			open = append(open, i)
		} else if n := len(open) - 1; n >= 0 {
			t.Pair, tokens[open[n]].Pair, open = open[n], i, open[:n]
		}
	}
	return tokens
}

// change is something of a token that is otherwise than the maker would have it.
type change func(t *api.Token)

func optional(t *api.Token)                   { t.Presence = api.Optional }
func since(n int) change                      { return func(t *api.Token) { t.Since = n } }
func null(w uint64) change                    { return func(t *api.Token) { t.Null = w } }
func within(least, most uint64) change        { return func(t *api.Token) { t.Min, t.Max = least, most } }
func full(n int) change                       { return func(t *api.Token) { t.Full = n } }
func size(n int) change                       { return func(t *api.Token) { t.Size = n } }
func changed(t *api.Token, changes ...change) { each(changes, func(c change) { c(t) }) }

func each[T any](list []T, do func(x T)) {
	for _, x := range list {
		do(x)
	}
}

// kind is a type: its tokens at a place of the field's bytes.
type kind func(at int) []api.Token

// array is one of a primitive type.
func array(p api.Prim, n int, changes ...change) kind {
	return func(at int) []api.Token {
		t := api.Token{Op: api.Encoding, Name: "coding", Offset: at, Size: n * prim.Size(p), Prim: p, Length: n, Null: prim.Null(p), Min: prim.Min(p), Max: prim.Max(p)}
		changed(&t, changes...)
		return []api.Token{t}
	}
}

func one(p api.Prim, changes ...change) kind { return array(p, 1, changes...) }

// fixed takes no bytes.
func fixed(p api.Prim, words ...uint64) kind {
	return array(p, len(words), func(t *api.Token) { t.Size, t.Presence, t.Const = 0, api.Constant, words })
}

// coded is an enum or a set of a type.
func coded(op api.TokenOp, of kind, values ...uint64) kind {
	return func(at int) []api.Token {
		inside := of(at)
		for i, v := range values {
			inside = append(inside, api.Token{Op: api.Choice, Name: fmt.Sprint("v", i), Value: v})
		}
		return around(api.Token{Op: op, Name: "E", Offset: at, Size: inside[0].Size, Presence: inside[0].Presence}, inside)
	}
}

func enum(of kind, values ...uint64) kind { return coded(api.BeginEnum, of, values...) }
func set(of kind, bits ...uint64) kind    { return coded(api.BeginSet, of, bits...) }

// composite has a byte that nobody takes ahead of each member.
func composite(members ...kind) kind {
	return func(at int) []api.Token {
		end := at
		var inside [][]api.Token
		for _, m := range members {
			inside = append(inside, m(end+1))
			end += 1 + inside[len(inside)-1][0].Size
		}
		return around(api.Token{Op: api.BeginComposite, Name: "C", Offset: at, Size: end - at}, inside...)
	}
}

// maker makes a form.
type maker struct {
	tokens []api.Token
	open   []int
	id     int
}

// bit is what is put into a form.
type bit func(k *maker)

func (k *maker) top() *api.Token { return &k.tokens[k.open[len(k.open)-1]] }

// around puts a message or group with its bits; its block is as long as its fields, and so is Full, if nothing else is said.
func (k *maker) around(t api.Token, bits []bit, changes []change) {
	place := len(k.tokens)
	k.open = append(k.open, place)
	k.tokens = append(k.tokens, t)
	each(bits, func(b bit) { b(k) })
	k.open = k.open[:len(k.open)-1]
	k.tokens = append(k.tokens, api.Token{Op: t.Op + 1, Name: t.Name})
	begin := &k.tokens[place]
	begin.Full = begin.Block
	changed(begin, changes...)
}

func (k *maker) next() int {
	k.id++
	return k.id
}

// field puts one behind those of its block.
func field(name string, of kind, changes ...change) bit {
	return func(k *maker) {
		held := of(0)
		t := api.Token{Op: api.BeginField, Name: name, ID: k.next(), Size: held[0].Size}
		changed(&t, changes...)
		if t.Size > 0 {
			t.Offset = k.top().Block
			k.top().Block += t.Size
		}
		k.tokens = append(k.tokens, around(t, held)...)
	}
}

// constant is a field that takes no bytes whatever its type is.
func constant(name string, of kind) bit {
	return func(k *maker) {
		t := api.Token{Op: api.BeginField, Name: name, ID: k.next(), Presence: api.Constant, Const: []uint64{1}}
		k.tokens = append(k.tokens, around(t, of(0))...)
	}
}

// group puts one whose dimension is of uint16 and the type by which its entries are counted. Since and Full must be said ahead of what is inside.
func group(name string, count api.Prim, from int, changes []change, bits ...bit) bit {
	return func(k *maker) {
		t := api.Token{Op: api.BeginGroup, Name: name, ID: k.next(), Since: from, Size: 2 + prim.Size(count), A: spot(api.Uint16, 0), B: spot(count, 2)}
		k.around(t, bits, changes)
	}
}

// plain is a group that was always there.
func plain(name string, count api.Prim, bits ...bit) bit { return group(name, count, 0, nil, bits...) }

func data(name string, length api.Prim, changes ...change) bit {
	return func(k *maker) {
		t := api.Token{Op: api.BeginData, Name: name, ID: k.next(), Size: prim.Size(length), A: spot(length, 0), Prim: api.Uint8}
		changed(&t, changes...)
		k.tokens = append(k.tokens, around(t)...)
	}
}

// made is a form of a message M with the header that the chapter's has.
func made(t testing.TB, version int, bits ...bit) api.Form {
	t.Helper()
	return madeOf(t, version, nil, bits...)
}

func madeOf(t testing.TB, version int, changes []change, bits ...bit) api.Form {
	t.Helper()
	k := &maker{id: 9}
	k.around(api.Token{Op: api.BeginMessage, Name: "M", ID: 3}, bits, changes)
	f := api.Form{Order: api.Big, Schema: 7, Version: version, Tokens: paired(k.tokens...),
		Head: api.Head{Size: 8, Block: spot(api.Uint16, 0), Template: spot(api.Uint16, 2), Schema: spot(api.Uint16, 4), Version: spot(api.Uint16, 6)}}
	wantForm(t, f)
	return f
}

func wantForm(t testing.TB, f api.Form) {
	t.Helper()
	if e, i := ir.Check(f); e != ok {
		t.Fatalf("no form: %d, %d of %d tokens: %+v", e, i, len(f.Tokens), f.Tokens[max(0, min(i, len(f.Tokens)-1)):][:1])
	}
}

// chapter is the form of the chapter's examples.
func chapter(t testing.TB) api.Form {
	return made(t, 2, field("a", one(api.Uint8)), field("b", one(api.Int16), optional), constant("k", fixed(api.Uint8, 2)), field("c", one(api.Uint16), optional, since(2)),
		plain("g", api.Uint8, field("x", one(api.Uint8)), data("e", api.Uint8)), data("d", api.Uint8))
}

const chapterTree = "M a=9 b=-2 c=7 g{ - x=4 e$ } d$hi"

// tree is a list by words: the message's name; then a name and = ahead of a field's words, { behind a group's name, - an entry, } the end of a group, a name and $ ahead of data's text.
func tree(said string) []api.Val {
	words := strings.Fields(said)
	m := []api.Val{{Depth: 1, Name: words[0]}}
	depth := 2
	for _, word := range words[1:] {
		switch {
		case word == "-":
			// In a list of entries the depth is that of the entry; inside one it is one more.
			m = append(m, api.Val{Depth: depth - 1, Kind: api.ValEntry})
		case word == "}":
			depth -= 2
		case strings.HasSuffix(word, "{"):
			m = append(m, api.Val{Depth: depth, Kind: api.ValGroup, Name: word[:len(word)-1]})
			depth += 2
		case strings.Contains(word, "$"):
			name, text, _ := strings.Cut(word, "$")
			m = append(m, api.Val{Depth: depth, Kind: api.ValData, Name: name, Text: text})
		default:
			name, list, _ := strings.Cut(word, "=")
			m = append(m, api.Val{Depth: depth, Kind: api.ValField, Name: name, Words: numbers(list)})
		}
	}
	return m
}

// numbers are words with commas between them.
func numbers(list string) []uint64 {
	var out []uint64
	for _, s := range strings.FieldsFunc(list, func(r rune) bool { return r == ',' }) {
		n, err := strconv.ParseInt(s, 0, 64)
		if err == nil {
			out = append(out, uint64(n))
			continue
		}
		w, err := strconv.ParseUint(s, 0, 64)
		if err != nil {
			panic(err)
		}
		out = append(out, w)
	}
	return out
}

// calls are some by words: as a tree's, but the count behind a group's name and =, and > for the next entry. A field's words stand behind a colon.
func calls(said string) []api.Call {
	var out []api.Call
	for _, word := range strings.Fields(said) {
		c := api.Call{Kind: api.CallNext}
		if name, list, is := strings.Cut(word, ":"); is {
			c = api.Call{Kind: api.CallField, Name: name, Words: numbers(list)}
		} else if name, text, is := strings.Cut(word, "$"); is {
			c = api.Call{Kind: api.CallData, Name: name, Text: text}
		} else if name, count, is := strings.Cut(word, "="); is {
			n, err := strconv.Atoi(count)
			if err != nil {
				panic(err)
			}
			c = api.Call{Kind: api.CallGroup, Name: name, Count: n}
		} else if word != ">" {
			panic(word)
		}
		out = append(out, c)
	}
	return out
}

// show tells a list node by node; nil and empty lists alike.
func show(m []api.Val) string {
	var b strings.Builder
	for i, v := range m {
		fmt.Fprintf(&b, "%d: %d kind %d %q %d %.40q (%d)\n", i, v.Depth, v.Kind, v.Name, v.Words, v.Text, len(v.Text))
		if i == 60 {
			fmt.Fprintf(&b, ".. %d nodes\n", len(m))
			break
		}
	}
	return b.String()
}

// showCalls tells calls, one by one.
func showCalls(cs []api.Call) string {
	var b strings.Builder
	for i, c := range cs {
		fmt.Fprintf(&b, "%d: kind %d %q %d %d %.40q (%d)\n", i, c.Kind, c.Name, c.Words, c.Count, c.Text, len(c.Text))
		if i == 60 {
			fmt.Fprintf(&b, ".. %d calls\n", len(cs))
			break
		}
	}
	return b.String()
}

// list is a form as lines, for faults to be seen.
func list(f api.Form) string {
	lines, e := ir.Show(f)
	return fmt.Sprint(e, "\n", strings.Join(lines, "\n"), "\n")
}

// sameNodes is the test's own Same.
func sameNodes(m, n []api.Val) bool {
	if len(m) != len(n) {
		return false
	}
	for i, v := range m {
		w := n[i]
		if v.Depth != w.Depth || v.Kind != w.Kind || v.Name != w.Name || v.Text != w.Text || !slices.Equal(v.Words, w.Words) {
			return false
		}
	}
	return true
}

func sameCalls(cs, ds []api.Call) bool {
	return slices.EqualFunc(cs, ds, func(c, d api.Call) bool {
		return c.Kind == d.Kind && c.Name == d.Name && c.Count == d.Count && c.Text == d.Text && slices.Equal(c.Words, d.Words)
	})
}

// copyOf is a list in memory of its own.
func copyOf(m []api.Val) []api.Val {
	m = slices.Clone(m)
	for i := range m {
		m[i].Words = slices.Clone(m[i].Words)
	}
	return m
}

// without is a list without the node at i; with one that has another one there; put one that has it ahead of i.
func without(m []api.Val, i int) []api.Val           { return slices.Delete(copyOf(m), i, i+1) }
func put(m []api.Val, i int, v ...api.Val) []api.Val { return slices.Insert(copyOf(m), i, v...) }
func with(m []api.Val, i int, do func(v *api.Val)) []api.Val {
	m = copyOf(m)
	do(&m[i])
	return m
}

// wantCheck asks Check, and of all that answer Check's error that one.
func wantCheck(t *testing.T, what string, f api.Form, m []api.Val, want api.Errno, at int) {
	t.Helper()
	if e, i := value.Check(f, m); e != want || i != at {
		t.Errorf("P16.1: %s: Check = %d, %d; want %d, %d\n%s", what, e, i, want, at, show(m))
	}
	if n, e := value.Size(f, m); e != want || e != ok && n != 0 {
		t.Errorf("P16.4: %s: Size = %d, %d; want %d", what, n, e, want)
	}
	if cs, e := value.Calls(f, m); e != want || e != ok && len(cs) != 0 {
		t.Errorf("P16.5: %s: Calls = %d calls, %d; want %d", what, len(cs), e, want)
	}
	if l, e := value.Project(f, m, f.Version, f.Version); e != want || e != ok && len(l) != 0 || e == ok && !sameNodes(l, m) {
		t.Errorf("P16.3: %s: Project = %d nodes, %d; want %d", what, len(l), e, want)
	}
	if odd := value.Odd(f, m); want != ok && len(odd) != 0 {
		t.Errorf("P16.7: %s: Odd = %d of what Check refuses", what, odd)
	}
}

func wantNodes(t *testing.T, what string, got []api.Val, e api.Errno, want []api.Val) {
	t.Helper()
	if e != ok || !sameNodes(got, want) {
		t.Errorf("%s: error %d\n%swant\n%s", what, e, show(got), show(want))
	}
}

func wantErr(t *testing.T, what string, got []api.Val, e, want api.Errno) {
	t.Helper()
	if e != want || len(got) != 0 {
		t.Errorf("%s: error %d, %d nodes; want %d", what, e, len(got), want)
	}
}

func wantTree(t *testing.T, f api.Form, said, want string) {
	t.Helper()
	got, e := value.Tree(f, calls(said))
	wantNodes(t, "P16.6: Tree of "+said, got, e, tree(want))
}

func refuseTree(t *testing.T, f api.Form, cs []api.Call, want api.Errno) {
	t.Helper()
	got, e := value.Tree(f, cs)
	wantErr(t, "P16.6: Tree of "+showCalls(cs), got, e, want)
}
