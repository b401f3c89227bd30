package project_test

import (
	"fmt"
	"math"
	"reflect"
	"slices"
	"strings"
	"testing"

	"stencil/api"
	"stencil/ir"
	"stencil/prim"
	"stencil/project"
	"stencil/schema"
)

// The text of chapter 12's example.
const chapter = `<messageSchema package="p" id="7" version="1"><types>` +
	`<composite name="messageHeader"><type name="blockLength" primitiveType="uint16"/><type name="templateId" primitiveType="uint16"/><type name="schemaId" primitiveType="uint16"/><type name="version" primitiveType="uint16"/></composite>` +
	`<enum name="Kind" encodingType="uint8"><validValue name="A">1</validValue><validValue name="B">2</validValue></enum>` +
	`<composite name="blob"><type name="length" primitiveType="uint16"/><type name="varData" primitiveType="uint8" length="0"/></composite></types>` +
	`<message name="Ping" id="1"><field name="seq" id="1" type="uint32"/><field name="kind" id="2" type="Kind" presence="optional" sinceVersion="1"/><data name="note" id="3" type="blob"/></message></messageSchema>`

func load(t testing.TB, text string) api.Schema {
	t.Helper()
	s, e, at := schema.Load(text)
	if e != api.OK {
		t.Fatalf("%s: error %d at %d", text, e, at)
	}
	return s
}

func chapterForm(t testing.TB) api.Form {
	t.Helper()
	f, e := ir.Compile(load(t, chapter), 0)
	if e != api.OK {
		t.Fatalf("Compile: error %d", e)
	}
	return f
}

// tidy is a form in memory of its own, in which lists without elements are nil.
func tidy(f api.Form) api.Form {
	f.Tokens = append([]api.Token(nil), f.Tokens...)
	for i := range f.Tokens {
		f.Tokens[i].Const = append([]uint64(nil), f.Tokens[i].Const...)
	}
	return f
}

func alike(f, g api.Form) bool { return reflect.DeepEqual(tidy(f), tidy(g)) }

// list is a form as lines, for faults to be seen.
func list(f api.Form) string {
	var out strings.Builder
	fmt.Fprintf(&out, "%d %d %d %+v\n", f.Order, f.Schema, f.Version, f.Head)
	for i, t := range f.Tokens {
		fmt.Fprintf(&out, "%d %+v\n", i, t)
	}
	return out.String()
}

// told is a form's parts and Choices, with the blocks.
func told(f api.Form) string {
	var out []string
	for _, t := range f.Tokens {
		switch t.Op {
		case api.BeginMessage, api.BeginGroup:
			out = append(out, fmt.Sprintf("%s(%d of %d)", t.Name, t.Block, t.Full))
		case api.BeginField, api.BeginData, api.Choice:
			out = append(out, t.Name)
		case api.EndGroup:
			out = append(out, ";")
		}
	}
	return strings.Join(out, " ")
}

func spot(p api.Prim, offset int) api.Spot { return api.Spot{Prim: p, Offset: offset} }

// coding is the Encoding of one value of a primitive type.
func coding(name string, p api.Prim, offset int) api.Token {
	return api.Token{Op: api.Encoding, Name: name, Offset: offset, Size: prim.Size(p), Prim: p, Length: 1, Null: prim.Null(p), Min: prim.Min(p), Max: prim.Max(p)}
}

// fixed is a coding that takes no bytes.
func fixed(name string, p api.Prim, offset int, words ...uint64) api.Token {
	t := coding(name, p, offset)
	t.Size, t.Length, t.Presence, t.Const = 0, len(words), api.Constant, words
	return t
}

func choice(name string, value uint64, since int) api.Token {
	return api.Token{Op: api.Choice, Name: name, Value: value, Since: since}
}

// around are tokens with the one that begins them, and the one that ends them.
func around(t api.Token, inside ...[]api.Token) []api.Token {
	return slices.Concat([]api.Token{t}, slices.Concat(inside...), []api.Token{{Op: t.Op + 1, Name: t.Name}})
}

// optional is a field that isn't constant, of a type.
func optional(name string, id, offset, since int, held ...api.Token) []api.Token {
	return around(api.Token{Op: api.BeginField, Name: name, ID: id, Offset: offset, Size: held[0].Size, Since: since, Presence: api.Optional}, held)
}

func constant(name string, id, since int, words []uint64, held ...api.Token) []api.Token {
	return around(api.Token{Op: api.BeginField, Name: name, ID: id, Since: since, Presence: api.Constant, Const: words}, held)
}

func group(name string, id, since, block, full int, inside ...[]api.Token) []api.Token {
	return around(api.Token{Op: api.BeginGroup, Name: name, ID: id, Since: since, Size: 5, Block: block, Full: full, A: spot(api.Uint16, 3), B: spot(api.Uint8, 1)}, inside...)
}

func data(name string, id, since int) []api.Token {
	return around(api.Token{Op: api.BeginData, Name: name, ID: id, Since: since, Size: 2, A: spot(api.Uint16, 0), Prim: api.Uint8})
}

// paired sets the Pairs of tokens by what is begun and ended.
func paired(tokens ...api.Token) []api.Token {
	tokens = slices.Clone(tokens)
	var open []int
	for i := range tokens {
		t := &tokens[i]
		t.Pair = i
		if t.Op >= api.Encoding || t.Op < 0 {
			continue
		}
		if t.Op%2 == 0 {
			open = append(open, i)
		} else if n := len(open) - 1; n >= 0 {
			t.Pair, tokens[open[n]].Pair, open = open[n], i, open[:n]
		}
	}
	return tokens
}

// formOf is a form of a message.
func formOf(version int, message ...[]api.Token) api.Form {
	return api.Form{Order: api.Big, Schema: 9, Version: version,
		Head:   api.Head{Size: 17, Block: spot(api.Uint32, 0), Template: spot(api.Uint32, 4), Schema: spot(api.Uint32, 8), Version: spot(api.Uint32, 13)},
		Tokens: paired(slices.Concat(message...)...)}
}

func coded(op api.TokenOp, name string, p api.Prim, offset int, choices ...api.Token) []api.Token {
	return around(api.Token{Op: op, Name: name, Offset: offset, Size: prim.Size(p)}, []api.Token{coding("coding", p, offset)}, choices)
}

// grown is a form to which each version from 1 to 4 has added something, all that there is among it; its blocks end with bytes that no field has.
func grown() api.Form {
	u8, u16 := coding("uint8", api.Uint8, 0), coding("uint16", api.Uint16, 0)
	enum := coded(api.BeginEnum, "E", api.Uint8, 0, choice("P", 1, 2), choice("Q", 2, 3), choice("R", 3, 9), choice("O", 4, 0))
	set := coded(api.BeginSet, "S", api.Uint16, 0, choice("lo", 0, 0), choice("mid", 7, 4), choice("hi", 15, 65534))
	inside := around(api.Token{Op: api.BeginComposite, Name: "C", Size: 9}, coded(api.BeginEnum, "e", api.Int8, 2, choice("late", 1, 4)),
		[]api.Token{fixed("k", api.Uint8, 4, 5, 6)}, around(api.Token{Op: api.BeginComposite, Name: "D", Offset: 4, Size: 4}, coded(api.BeginSet, "s", api.Uint16, 5, choice("bit", 2, 0))))
	nothing := around(api.Token{Op: api.BeginComposite, Name: "N"}, []api.Token{fixed("q", api.Float, 0, 1)})
	return formOf(4, around(api.Token{Op: api.BeginMessage, Name: "M", ID: 1, Since: 1, Block: 40, Full: 50},
		optional("a", 10, 2, 1, u16),
		constant("k", 11, 2, []uint64{3, 4}, enum...),
		optional("e", 12, 6, 2, enum...),
		optional("c", 13, 10, 3, inside...),
		optional("none", 14, 0, 3, nothing...),
		optional("s", 15, 20, 3, set...),
		constant("last", 16, 4, []uint64{1}, u8),
		optional("z", 17, 0, 4, nothing...),
		group("g", 20, 1, 9, 10,
			optional("a", 21, 0, 2, u8), optional("b", 22, 4, 4, set...),
			group("h", 23, 1, 0, 3, data("d", 24, 1)),
			group("i", 25, 1, 8, 8, optional("x", 26, 1, 1, u8), optional("y", 27, 2, 1, u8), optional("w", 28, 5, 3, u8), group("j", 29, 1, 1, 1, constant("k", 30, 3, []uint64{0}, u8), optional("v", 31, 0, 4, u8))),
			data("d", 32, 1)),
		group("n", 40, 2, 9, 9, optional("a", 41, 1, 2, enum...), optional("b", 42, 3, 4, u16), data("d", 43, 2)),
		data("d", 44, 3), data("d2", 45, 4)))
}

// at is a form at a version that it has: what comes is a form.
func at(t testing.TB, f api.Form, version int) api.Form {
	t.Helper()
	g, e := project.At(f, version)
	if e != api.OK {
		t.Fatalf("P13.1: At(%d): error %d\n%s", version, e, list(f))
	}
	if e, i := ir.Check(g); e != api.OK {
		t.Fatalf("P13.1: At(%d) is no form: %d, %d\n%s", version, e, i, list(g))
	}
	return g
}

// Examples 1 and 2 of the chapter; P13.1.
func TestChapterAt(t *testing.T) {
	f := chapterForm(t)
	want := f
	want.Version = 0
	want.Tokens = []api.Token{
		{Op: api.BeginMessage, Name: "Ping", ID: 1, Block: 4, Full: 5, Pair: 6},
		{Op: api.BeginField, Name: "seq", ID: 1, Size: 4, Pair: 3},
		{Op: api.Encoding, Name: "uint32", Size: 4, Prim: api.Uint32, Length: 1, Null: 4294967295, Max: 4294967294, Pair: 2},
		{Op: api.EndField, Name: "seq", Pair: 1},
		{Op: api.BeginData, Name: "note", ID: 3, Size: 2, A: spot(api.Uint16, 0), Prim: api.Uint8, Pair: 5},
		{Op: api.EndData, Name: "note", Pair: 4},
		{Op: api.EndMessage, Name: "Ping", Pair: 0},
	}
	if g := at(t, f, 0); !alike(g, want) {
		t.Errorf("P13.1: At(f, 0):\n%swant\n%s", list(g), list(want))
	}
	if g := at(t, f, 1); !alike(g, f) {
		t.Errorf("P13.1: At(f, 1):\n%s", list(g))
	}
	for _, version := range []int{2, -1} {
		refuses(t, f, version, api.ErrVersion)
	}
	f.Tokens[1].Size = 3
	refuses(t, f, 0, api.ErrTokens)
	refuses(t, api.Form{}, 0, api.ErrTokens)
}

func refuses(t testing.TB, f api.Form, version int, want api.Errno) {
	t.Helper()
	if g, e := project.At(f, version); e != want || !reflect.DeepEqual(g, api.Form{}) {
		t.Errorf("P13.1: At(%d): error %d, want %d; with\n%s", version, e, want, list(g))
	}
}

// Example 3 of the chapter; P13.2.
func TestChapterLives(t *testing.T) {
	f := chapterForm(t)
	for _, x := range []struct {
		i, version int
		want       bool
	}{{4, 0, false}, {7, 0, false}, {7, 1, true}, {13, 0, true}, {13, -1, false}, {14, 1, false}, {13, 99, true}} {
		if got := project.Lives(f, x.i, x.version); got != x.want {
			t.Errorf("P13.2: Lives(f, %d, %d) = %v", x.i, x.version, got)
		}
	}
}

// Examples 4 and 5 of the chapter; P13.3.
func TestChapterVersions(t *testing.T) {
	f := chapterForm(t)
	wantVersions(t, f, 0, 1)
	f.Tokens[8].Since = 5
	wantVersions(t, f, 0, 1)
	if got := told(at(t, f, 1)); got != "Ping(5 of 5) seq kind A note" {
		t.Errorf("P13.1: with B since 5: At(f, 1) has %s", got)
	}
	f = chapterForm(t)
	for i := range f.Tokens {
		switch f.Tokens[i].Op {
		case api.BeginMessage, api.BeginField, api.BeginData, api.Choice:
			f.Tokens[i].Since = 1
		}
	}
	wantVersions(t, f, 1)
	refuses(t, f, 0, api.ErrVersion)
}

func wantVersions(t testing.TB, f api.Form, want ...int) {
	t.Helper()
	if got := project.Versions(f); !slices.Equal(got, want) {
		t.Errorf("P13.3: Versions %v, want %v", got, want)
	}
}

// P13.1, P13.3: what is there at each version of a form that grew, and how long its blocks are.
func TestGrown(t *testing.T) {
	f := grown()
	want := map[int]string{
		// The field that came next, its Size not 0, cuts the block: e at 6, though k came too; a of g at 0.
		1: "M(6 of 50) a g(0 of 10) h(0 of 3) d ; i(5 of 8) x y j(0 of 1) ; ; d ;",
		2: "M(10 of 50) a k P O e P O g(4 of 10) a h(0 of 3) d ; i(5 of 8) x y j(0 of 1) ; ; d ; n(3 of 9) a P O d ;",
		// What came at 4 takes no bytes: the block has those behind s.
		3: "M(40 of 50) a k P Q O e P Q O c bit none s lo g(4 of 10) a h(0 of 3) d ; i(8 of 8) x y w j(0 of 1) k ; ; d ; n(3 of 9) a P Q O d ; d",
		4: "M(40 of 50) a k P Q O e P Q O c late bit none s lo mid last z g(9 of 10) a b lo mid h(0 of 3) d ; i(8 of 8) x y w j(1 of 1) k v ; ; d ; n(9 of 9) a P Q O b d ; d d2",
	}
	for version := 1; version <= 4; version++ {
		g := at(t, f, version)
		if told(g) != want[version] {
			t.Errorf("P13.1: At(%d):\n%s\nwant\n%s", version, told(g), want[version])
		}
		if g.Order != f.Order || g.Schema != f.Schema || g.Head != f.Head || g.Version != version {
			t.Errorf("P13.1: At(%d): %d, %d, %+v, %d", version, g.Order, g.Schema, g.Head, g.Version)
		}
		wantVersions(t, g, []int{1, 2, 3, 4}[:version]...)
	}
	for _, version := range []int{math.MinInt, -1, 0, 5, 9, 65534, math.MaxInt} {
		refuses(t, f, version, api.ErrVersion)
	}
	wantVersions(t, f, 1, 2, 3, 4)
}

// P13.1: a token is as it is, but for its Pair and Block.
func TestTokensStay(t *testing.T) {
	f := grown()
	for version := 1; version <= 4; version++ {
		g := at(t, f, version)
		k := 0
		for i, want := range f.Tokens {
			if !project.Lives(f, i, version) {
				continue
			}
			got := g.Tokens[k]
			if pair := g.Tokens[got.Pair]; pair.Name != f.Tokens[want.Pair].Name || pair.Op != f.Tokens[want.Pair].Op || pair.Pair != k {
				t.Errorf("P13.1: At(%d): the pair of %d is %d: %+v", version, k, got.Pair, pair)
			}
			got.Pair, got.Block, want.Pair, want.Block = 0, 0, 0, 0
			if len(got.Const) == 0 && len(want.Const) == 0 {
				got.Const, want.Const = nil, nil
			}
			if !reflect.DeepEqual(got, want) {
				t.Errorf("P13.1: At(%d): %d is %+v, want %+v", version, k, got, want)
			}
			k++
		}
		if k != len(g.Tokens) {
			t.Errorf("P13.1: At(%d): %d tokens, %d live", version, len(g.Tokens), k)
		}
	}
}

// P13.2: when each token of a form that grew came; those that end something with what they end, a Choice never ahead of its field.
func TestLives(t *testing.T) {
	f := grown()
	// By the tokens that begin something and the Choices, in their order.
	came := []int{1, 1, 2, 2, 2, 3, 9, 2, 2, 2, 2, 3, 9, 2, 3, 3, 3, 4, 3, 3, 3, 3, 3, 3, 3, 3, 4, 65534, 4, 4, 4,
		1, 2, 4, 4, 4, 4, 65534, 1, 1, 1, 1, 1, 3, 1, 3, 4, 1, 2, 2, 2, 2, 3, 9, 2, 4, 2, 3, 4}
	k := 0
	for i, x := range f.Tokens {
		var at int
		switch {
		case x.Op == api.Encoding: // as what it stands in
			at = cameOf(f, i)
		case x.Op == api.Choice || x.Op%2 == 0:
			at = came[k]
			k++
		default:
			at = cameOf(f, x.Pair)
		}
		for version, want := range map[int]bool{math.MinInt: false, -1: false, 0: false, at - 1: false, at: true, at + 1: true, 65535: true, math.MaxInt: true} {
			if got := project.Lives(f, i, version); got != want {
				t.Errorf("P13.2: Lives(%d %s, %d) = %v", i, x.Name, version, got)
			}
		}
	}
	if k != len(came) {
		t.Fatalf("%d of %d", k, len(came))
	}
	for _, i := range []int{math.MinInt, -1, len(f.Tokens), len(f.Tokens) + 1, math.MaxInt} {
		for _, version := range []int{math.MinInt, 0, 1, 4, math.MaxInt} {
			if project.Lives(f, i, version) {
				t.Errorf("P13.2: Lives(%d, %d): there is no such token", i, version)
			}
		}
	}
}

// P13.2: below the message's Since none lives; above the Version all do but Choices that came later.
func TestLivesOutsideTheVersions(t *testing.T) {
	f := grown()
	for i, x := range f.Tokens {
		late := x.Op == api.Choice && x.Since > 4
		if project.Lives(f, i, 0) || project.Lives(f, i, 4) == late || project.Lives(f, i, 5) == late || project.Lives(f, i, 8) == late {
			t.Errorf("P13.2: %d %s: %v at 0, %v at 4, %v at 5", i, x.Name, project.Lives(f, i, 0), project.Lives(f, i, 4), project.Lives(f, i, 5))
		}
	}
}

// P13.3: numbers at which nothing came are no versions of it; the first is the message's Since, though nothing but the message came then.
func TestVersions(t *testing.T) {
	u8 := coding("uint8", api.Uint8, 0)
	message := func(since int, inside ...[]api.Token) []api.Token {
		return around(api.Token{Op: api.BeginMessage, Name: "M", Since: since, Block: 8, Full: 8}, inside...)
	}
	enum := func(choices ...api.Token) []api.Token { return coded(api.BeginEnum, "E", api.Uint8, 0, choices...) }
	for _, x := range []struct {
		what string
		f    api.Form
		want []int
	}{
		{"a message alone", formOf(9, message(0)), []int{0}},
		{"a message alone, later", formOf(9, message(7)), []int{7}},
		{"a message alone, last", formOf(65534, message(65534)), []int{65534}},
		{"a field at the end", formOf(65534, message(0, optional("f", 1, 0, 65534, u8))), []int{0, 65534}},
		{"some between", formOf(60000, message(3, optional("f", 1, 0, 5, u8), optional("g", 2, 1, 5, u8), optional("h", 3, 2, 50000, u8), data("d", 4, 3), data("e", 5, 400))), []int{3, 5, 400, 50000}},
		{"a group alone", formOf(2, message(0, group("g", 1, 2, 0, 0))), []int{0, 2}},
		{"in a group", formOf(5, message(1, group("g", 1, 2, 8, 8, optional("f", 2, 0, 4, u8), data("d", 3, 2)))), []int{1, 2, 4}},
		{"Choices at other versions", formOf(5, message(1, optional("f", 1, 0, 2, enum(choice("a", 1, 4), choice("b", 2, 0), choice("c", 3, 3), choice("d", 4, 2))...))), []int{1, 2, 3, 4}},
		{"Choices later than the Version", formOf(5, message(1, optional("f", 1, 0, 2, enum(choice("a", 1, 6), choice("b", 2, 5), choice("c", 3, 65534))...))), []int{1, 2, 5}},
		{"Choices of a constant", formOf(5, message(1, constant("f", 1, 2, []uint64{1}, enum(choice("a", 1, 1), choice("b", 2, 4))...))), []int{1, 2, 4}},
		{"a constant", formOf(5, message(1, constant("f", 1, 3, []uint64{1}, u8))), []int{1, 3}},
	} {
		if e, i := ir.Check(x.f); e != api.OK {
			t.Fatalf("%s: %d, %d", x.what, e, i)
		}
		if got := project.Versions(x.f); !slices.Equal(got, x.want) {
			t.Errorf("P13.3: %s: %v, want %v", x.what, got, x.want)
		}
	}
}

// P13.1: block lengths, of a message and of a group alike.
func TestBlocks(t *testing.T) {
	u8, u32 := coding("uint8", api.Uint8, 0), coding("uint32", api.Uint32, 0)
	nothing := around(api.Token{Op: api.BeginComposite, Name: "N"})
	for _, x := range []struct {
		what   string
		block  int
		fields [][]api.Token
		want   []int // by version, from 0 to 3
	}{
		{"no field", 7, nil, []int{7, 7, 7, 7}},
		{"an empty block", 0, nil, []int{0, 0, 0, 0}},
		{"one that was ever there", 7, [][]api.Token{optional("a", 1, 2, 0, u8)}, []int{7, 7, 7, 7}},
		{"one that came", 7, [][]api.Token{optional("a", 1, 2, 2, u8)}, []int{2, 2, 7, 7}},
		{"one that came at 0", 7, [][]api.Token{optional("a", 1, 0, 2, u32)}, []int{0, 0, 7, 7}},
		{"bytes between", 20, [][]api.Token{optional("a", 1, 1, 0, u8), optional("b", 2, 6, 1, u32), optional("c", 3, 13, 3, u8)}, []int{6, 13, 13, 20}},
		{"two at once", 20, [][]api.Token{optional("a", 1, 1, 0, u8), optional("b", 2, 6, 2, u32), optional("c", 3, 13, 2, u8)}, []int{6, 6, 20, 20}},
		{"a constant that came first", 9, [][]api.Token{optional("a", 1, 0, 0, u8), constant("k", 2, 1, []uint64{1}, u8), optional("b", 3, 5, 2, u8)}, []int{5, 5, 9, 9}},
		{"no bytes that came first", 9, [][]api.Token{optional("a", 1, 0, 0, u8), optional("n", 2, 0, 1, nothing...), optional("b", 3, 5, 2, u8)}, []int{5, 5, 9, 9}},
		{"only what takes no bytes came", 9, [][]api.Token{optional("a", 1, 0, 0, u8), optional("n", 2, 0, 1, nothing...), constant("k", 3, 2, []uint64{1}, u8)}, []int{9, 9, 9, 9}},
		{"the last byte", 9, [][]api.Token{optional("a", 1, 0, 0, u8), optional("b", 2, 8, 3, u8)}, []int{8, 8, 8, 9}},
		{"each version one", 12, [][]api.Token{optional("a", 1, 0, 0, u8), optional("b", 2, 1, 1, u8), optional("c", 3, 4, 2, u8), optional("d", 4, 8, 3, u8)}, []int{1, 4, 8, 12}},
	} {
		for _, full := range []int{x.block, x.block + 5} {
			message := formOf(3, around(api.Token{Op: api.BeginMessage, Name: "M", Block: x.block, Full: full}, x.fields...))
			inGroup := formOf(3, around(api.Token{Op: api.BeginMessage, Name: "M", Block: 3, Full: 3}, optional("f", 90, 1, 2, u8), group("g", 91, 0, x.block, full, append(slices.Clone(x.fields), group("h", 92, 0, 1, 1))...), group("i", 93, 3, 2, 2, optional("j", 94, 1, 3, u8))))
			for version, want := range x.want {
				g, h := at(t, message, version), at(t, inGroup, version)
				if g.Tokens[0].Block != want || g.Tokens[0].Full != full {
					t.Errorf("P13.1: %s: a message at %d: %s, want %d of %d", x.what, version, told(g), want, full)
				}
				in := h.Tokens[ir.Find(h, 0, "g")]
				if in.Block != want || in.Full != full {
					t.Errorf("P13.1: %s: a group at %d: %s, want %d of %d", x.what, version, told(h), want, full)
				}
			}
		}
	}
}

// P13.1: enums and sets that keep no Choice are there all the same.
func TestNoChoiceLeft(t *testing.T) {
	for _, op := range []api.TokenOp{api.BeginEnum, api.BeginSet} {
		f := formOf(2, around(api.Token{Op: api.BeginMessage, Name: "M", Block: 1, Full: 1}, optional("f", 1, 0, 0, coded(op, "T", api.Uint8, 0, choice("a", 1, 1), choice("b", 2, 2), choice("c", 3, 3))...)))
		for version, want := range []string{"M(1 of 1) f", "M(1 of 1) f a", "M(1 of 1) f a b"} {
			g := at(t, f, version)
			if told(g) != want || len(g.Tokens) != 7+version || g.Tokens[2].Op != op || g.Tokens[2].Pair != 4+version {
				t.Errorf("P13.1: At(%d):\n%s", version, list(g))
			}
		}
		wantVersions(t, f, 0, 1, 2)
	}
}
