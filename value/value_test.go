package value_test

import (
	"slices"
	"strings"
	"testing"

	"stencil/api"
	"stencil/project"
	"stencil/value"
)

// The chapter's examples 1 and 2: P16.1, P16.4.
func TestChapterCheck(t *testing.T) {
	f, m := chapter(t), tree(chapterTree)
	wantCheck(t, "the tree", f, m, ok, 0)
	if depths := [...]int{1, 2, 2, 2, 2, 3, 4, 4, 2}; !slices.EqualFunc(m, depths[:], func(v api.Val, d int) bool { return v.Depth == d }) {
		t.Fatalf("the test's tree:\n%s", show(m))
	}
	if n, e := value.Size(f, m); n != 21 || e != ok {
		t.Errorf("P16.4: Size = %d, %d", n, e)
	}
	wantCheck(t, "without its last", f, m[:8], api.ErrTree, 8)
	wantCheck(t, "another depth at d", f, with(m, 8, func(v *api.Val) { v.Depth = 3 }), api.ErrTree, 8)
	wantCheck(t, "field k behind c", f, put(m, 4, tree("M k=2")[1]), api.ErrTree, 4)
	wantCheck(t, "two words", f, with(m, 1, func(v *api.Val) { v.Words = numbers("9,9") }), api.ErrWords, 1)
	wantCheck(t, "a word too great", f, with(m, 1, func(v *api.Val) { v.Words = numbers("256") }), api.ErrFit, 1)
	wantCheck(t, "a text too long", f, with(m, 8, func(v *api.Val) { v.Text = strings.Repeat("x", 255) }), api.ErrData, 8)
	wantCheck(t, "a text at a field", f, with(m, 1, func(v *api.Val) { v.Text = "x" }), api.ErrTree, 1)
	many := slices.Concat(m[:5], slices.Repeat(m[5:8], 255), m[8:])
	wantCheck(t, "255 entries", f, many, api.ErrEntries, 5+3*254)
	wantCheck(t, "254 entries", f, slices.Concat(m[:5], slices.Repeat(m[5:8], 254), m[8:]), ok, 0)
}

// The chapter's examples 3 and 4: P16.2, P16.3.
func TestChapterNullsAndProject(t *testing.T) {
	f, m := chapter(t), tree(chapterTree)
	got, e := value.Nulls(f)
	wantNodes(t, "P16.2: Nulls", got, e, tree("M a=255 b=-32768 c=65535 g{ } d$"))
	got, e = value.Project(f, m, 2, 1)
	wantNodes(t, "P16.3: from 2 to 1", got, e, without(m, 3))
	got, e = value.Project(f, got, 1, 2)
	wantNodes(t, "P16.3: from 1 to 2", got, e, tree("M a=9 b=-2 c=65535 g{ - x=4 e$ } d$hi"))
	got, e = value.Project(f, m, 3, 2)
	wantErr(t, "P16.3: from 3 to 2", got, e, api.ErrVersion)
}

// The chapter's example 5: P16.5, P16.6.
func TestChapterCalls(t *testing.T) {
	f, m := chapter(t), tree(chapterTree)
	cs, e := value.Calls(f, m)
	if want := calls("a:9 b:-2 c:7 g=1 > x:4 e$ d$hi"); e != ok || !sameCalls(cs, want) {
		t.Errorf("P16.5: Calls: %d\n%swant\n%s", e, showCalls(cs), showCalls(want))
	}
	back, e := value.Tree(f, cs)
	wantNodes(t, "P16.9: Tree of Calls", back, e, m)
	refuseTree(t, f, calls("d$"), api.ErrOrder)
	wantTree(t, f, "g=0 d$", "M a=255 b=-32768 c=65535 g{ } d$")
	wantTree(t, f, "a:1 a:2 g=0 d$", "M a=2 b=-32768 c=65535 g{ } d$")
	refuseTree(t, f, calls("g=0"), api.ErrTree)
}

// The chapter's example 6: P16.7.
func TestChapterOdd(t *testing.T) {
	f := chapter(t)
	for _, x := range []struct {
		said string
		want []int
	}{{chapterTree, nil}, {"M a=255 b=-2 c=7 g{ } d$", []int{1}}, {"M a=9 b=-32768 c=7 g{ } d$", nil}} {
		if got := value.Odd(f, tree(x.said)); !slices.Equal(got, x.want) {
			t.Errorf("P16.7: Odd of %s = %d, want %d", x.said, got, x.want)
		}
	}
	f.Tokens[2].Max = 8 // a's leaf
	if got := value.Odd(f, tree(chapterTree)); !slices.Equal(got, []int{1}) {
		t.Errorf("P16.7: with a Max of 8: %d", got)
	}
}

// P16.1: a message without anything has a tree of one node.
func TestNothingInside(t *testing.T) {
	f := made(t, 0)
	m := tree("M")
	wantCheck(t, "a message alone", f, m, ok, 0)
	wantCheck(t, "nothing", f, nil, api.ErrTree, 0)
	wantCheck(t, "an empty list", f, []api.Val{}, api.ErrTree, 0)
	wantCheck(t, "two messages", f, slices.Repeat(m, 2), api.ErrTree, 1)
	got, e := value.Nulls(f)
	wantNodes(t, "P16.2: Nulls", got, e, m)
	got, e = value.Tree(f, nil)
	wantNodes(t, "P16.6: Tree of no calls", got, e, m)
	if n, e := value.Size(f, m); n != 8 || e != ok {
		t.Errorf("P16.4: Size = %d, %d", n, e)
	}
	if cs, e := value.Calls(f, m); len(cs) != 0 || e != ok {
		t.Errorf("P16.5: Calls: %d calls, %d", len(cs), e)
	}
	refuseTree(t, f, []api.Call{{Kind: api.CallNext}}, api.ErrOrder)
}

// leafy has fields of no leaf, of one, of several, and of several elements.
func leafy(t testing.TB, bits ...bit) api.Form {
	return made(t, 1, slices.Concat([]bit{
		constant("k", one(api.Uint8)),
		field("none", composite()),
		field("room", composite(fixed(api.Uint8, 3), composite())),
		field("two", composite(one(api.Int8), fixed(api.Uint16, 7, 8), one(api.Uint32))),
		field("three", array(api.Char, 3)),
		field("mix", composite(array(api.Int16, 2), set(one(api.Uint8), 0), composite(enum(one(api.Uint16), 5), array(api.Double, 2)))),
		field("all", composite(one(api.Float), one(api.Uint64), one(api.Int64), one(api.Int32))),
	}, bits)...)
}

const leafyTree = "M two=-1,5 three=65,66,0 mix=1,-2,1,5,7,8 all=1,2,-3,4"

// P16.1: fields that have no leaf stand in no tree; of each other one as many words as its leaves have elements.
func TestLeaves(t *testing.T) {
	f := leafy(t)
	m := tree(leafyTree)
	wantCheck(t, "as it is", f, m, ok, 0)
	for _, name := range []string{"k", "none", "room"} {
		for i := range m {
			for _, words := range []string{"", "1"} {
				wantCheck(t, name+" in it", f, put(m, i+1, tree("M " + name + "=" + words)[1]), api.ErrTree, i+1)
			}
		}
	}
	for i, v := range m[1:] {
		for _, n := range []int{0, 1, len(v.Words) - 1, len(v.Words) + 1, 2 * len(v.Words)} {
			words := slices.Repeat([]uint64{1}, n)
			wantCheck(t, "other words at "+v.Name, f, with(m, i+1, func(v *api.Val) { v.Words = words }), api.ErrWords, i+1)
			// A number that isn't the field's comes ahead of words that don't fit.
			wantCheck(t, "other words at "+v.Name, f, with(m, i+1, func(v *api.Val) { v.Words = slices.Repeat([]uint64{1 << 33}, n) }), api.ErrWords, i+1)
		}
	}
	nulls := "M two=-128,0xFFFFFFFF three=0,0,0 mix=-32768,-32768,0,65535,0x7FF8000000000000,0x7FF8000000000000 all=0x7FC00000,0xFFFFFFFFFFFFFFFF,-9223372036854775808,-2147483648"
	got, e := value.Nulls(f)
	wantNodes(t, "P16.2: Nulls", got, e, tree(nulls))
	wantTree(t, f, "", nulls)
	wantTree(t, f, "three:1,2,3", strings.Replace(nulls, "three=0,0,0", "three=1,2,3", 1))
	wantCheck(t, "nulls", f, got, ok, 0)
}

// P16.1, P16.6: each word at the ends of its type, and one beyond them, at each place of a field's words.
func TestFit(t *testing.T) {
	ends := func(p api.Prim) (in, out []uint64) {
		switch bits := map[api.Prim]int{api.Int8: 8, api.Int16: 16, api.Int32: 32, api.Int64: 64}[p]; {
		case bits == 64 || p == api.Uint64 || p == api.Double:
			return []uint64{0, 1, 1 << 63, 1<<64 - 1, 1<<63 - 1}, nil
		case bits > 0:
			half := uint64(1) << (bits - 1)
			return []uint64{0, half - 1, -half, -1 & (1<<64 - 1)}, []uint64{half, 2*half - 1, -half - 1, 1 << 63, 1 << bits}
		}
		top := map[api.Prim]uint64{api.Char: 1 << 8, api.Uint8: 1 << 8, api.Uint16: 1 << 16, api.Uint32: 1 << 32, api.Float: 1 << 32}[p]
		return []uint64{0, 1, top/2 - 1, top / 2, top - 1}, []uint64{top, top + 1, 1<<64 - 1, 1 << 63}
	}
	for p := api.Char; p <= api.Double; p++ {
		in, out := ends(p)
		f := made(t, 0, field("f", composite(one(api.Uint8), array(p, 2), fixed(api.Uint8, 9), one(p))), data("d", api.Uint8))
		at := func(place int, w uint64) ([]api.Val, []api.Call) {
			words := []uint64{1, 1, 1, 1}
			words[place] = w
			return []api.Val{{Depth: 1, Name: "M"}, {Depth: 2, Kind: api.ValField, Name: "f", Words: words}, {Depth: 2, Kind: api.ValData, Name: "d"}},
				[]api.Call{{Name: "f", Words: words}, {Kind: api.CallData, Name: "d"}}
		}
		for place := 1; place < 4; place++ {
			for _, w := range in {
				m, cs := at(place, w)
				wantCheck(t, "a word of the type", f, m, ok, 0)
				got, e := value.Tree(f, cs)
				wantNodes(t, "P16.6: a word of the type", got, e, m)
			}
			for _, w := range out {
				m, cs := at(place, w)
				wantCheck(t, "a word beyond", f, m, api.ErrFit, 1)
				refuseTree(t, f, cs, api.ErrFit)
			}
		}
		m, _ := at(0, 256)
		wantCheck(t, "the first word beyond", f, m, api.ErrFit, 1)
	}
}

// P16.4: the sum of what the nodes take, at each version of a form whose blocks have grown.
func TestSizes(t *testing.T) {
	f := madeOf(t, 3, []change{full(40)}, field("a", one(api.Uint8)), field("b", one(api.Uint32), optional, since(2)),
		group("g", api.Uint16, 0, []change{full(30)}, field("x", one(api.Uint16)), field("y", one(api.Uint64), optional, since(3)),
			plain("h", api.Uint32, data("e", api.Uint32)), data("i", api.Uint16)),
		group("j", api.Uint8, 1, nil), data("d", api.Uint8, since(2)))
	for _, x := range []struct {
		version int
		said    string
		want    int
	}{
		{0, "M a=1 g{ }", 8 + 1 + 4},
		{0, "M a=1 g{ - x=1 h{ } i$ - x=2 h{ - e$abc - e$ } i$xy }", 8 + 1 + 4 + 2*2 + 2*6 + 2*4 + 3 + 2*2 + 2},
		{1, "M a=1 g{ } j{ - - - }", 8 + 1 + 4 + 3},
		{2, "M a=1 b=5 g{ - x=1 h{ } i$ } j{ } d$q", 8 + 5 + 4 + 2 + 6 + 2 + 3 + 1 + 1},
		{3, "M a=1 b=5 g{ - x=1 y=6 h{ } i$ } j{ } d$q", 8 + 5 + 4 + 10 + 6 + 2 + 3 + 1 + 1},
	} {
		g, _ := project.At(f, x.version)
		if n, e := value.Size(g, tree(x.said)); n != x.want || e != ok {
			t.Errorf("P16.4: %d: %s: Size = %d, %d; want %d", x.version, x.said, n, e, x.want)
		}
	}
	// Block, not Full, and not where the last field ends.
	f = madeOf(t, 0, []change{func(x *api.Token) { x.Block, x.Full = 11, 12 }}, field("a", one(api.Uint8)))
	if n, e := value.Size(f, tree("M a=1")); n != 19 || e != ok {
		t.Errorf("P16.4: Size = %d, %d", n, e)
	}
}

// P16.8: lists that differ in one field of one node; nil and empty ones; any lists.
func TestSame(t *testing.T) {
	m := tree("M a=9,8 g{ - x=4 e$q } d$hi")
	same := func(what string, m, n []api.Val, want bool) {
		t.Helper()
		if value.Same(m, n) != want || value.Same(n, m) != want {
			t.Errorf("P16.8: %s: %v and %v; want %v", what, value.Same(m, n), value.Same(n, m), want)
		}
	}
	same("alike", m, copyOf(m), true)
	same("itself", m, m, true)
	for i := range m {
		for what, do := range map[string]func(v *api.Val){
			"Depth":      func(v *api.Val) { v.Depth++ },
			"Kind":       func(v *api.Val) { v.Kind = -7 },
			"Name":       func(v *api.Val) { v.Name += "x" },
			"Words":      func(v *api.Val) { v.Words = append(v.Words, 0) },
			"Words too":  func(v *api.Val) { v.Words = append([]uint64{0}, v.Words...) },
			"Text":       func(v *api.Val) { v.Text += "\x00" },
			"Text first": func(v *api.Val) { v.Text = "x" + v.Text },
		} {
			same(what, m, with(m, i, do), false)
		}
		same("empty words", m, with(m, i, func(v *api.Val) { v.Words = append([]uint64{}, v.Words...) }), true)
		same("one less", m, without(m, i), false)
		same("cut", m, m[:i], false)
		same("one twice", m, put(m, i, m[i]), false)
	}
	same("another word", m, with(m, 1, func(v *api.Val) { v.Words[1] = 9 }), false)
	same("words turned", m, with(m, 1, func(v *api.Val) { slices.Reverse(v.Words) }), false)
	same("a word less", m, with(m, 1, func(v *api.Val) { v.Words = v.Words[:1] }), false)
	same("nil and empty", nil, []api.Val{}, true)
	same("nothing and a node", nil, make([]api.Val, 1), false)
	same("nodes of nothing", make([]api.Val, 3), make([]api.Val, 3), true)
	same("a node with empty words", []api.Val{{}}, []api.Val{{Words: []uint64{}}}, true)
	same("kinds that are none", []api.Val{{Kind: -1 << 63, Depth: 1<<63 - 1}}, []api.Val{{Kind: -1 << 63, Depth: 1<<63 - 1}}, true)
	turned := copyOf(m)
	slices.Reverse(turned)
	same("turned", m, turned, false)
}
