package ir_test

import (
	"fmt"
	"math"
	"slices"
	"strings"
	"testing"

	"stencil/api"
	"stencil/ir"
	"stencil/prim"
)

// wide is a form that no schema has: its blocks are shorter than they were, and there is room wherever some may be.
func wide() api.Form {
	return api.Form{Order: api.Big, Schema: 9, Version: 4,
		Head: api.Head{Size: 10, Block: spot(api.Uint16, 8), Template: spot(api.Uint8, 0), Schema: spot(api.Uint16, 5), Version: spot(api.Uint32, 1)},
		Tokens: paired(
			api.Token{Op: api.BeginMessage, Name: "M", ID: 1, Since: 1, Block: 60, Full: 70},
			api.Token{Op: api.BeginField, Name: "a", ID: 10, Offset: 2, Size: 4, Since: 1}, coding("uint32", api.Uint32, 0), end(api.EndField, "a"),
			api.Token{Op: api.BeginField, Name: "arr", ID: 11, Offset: 8, Size: 6, Since: 1, Presence: api.Optional}, several("Arr", api.Int16, 0, 3), end(api.EndField, "arr"),
			api.Token{Op: api.BeginField, Name: "k", ID: 12, Since: 2, Presence: api.Constant, Const: []uint64{1 << 40, 2}},
			api.Token{Op: api.BeginEnum, Name: "E", Size: 1}, coding("int8", api.Int8, 0), api.Token{Op: api.Choice, Name: "K", Value: minus(1)}, end(api.EndEnum, "E"), end(api.EndField, "k"),
			api.Token{Op: api.BeginField, Name: "c", ID: 13, Offset: 20, Size: 20, Since: 2, Presence: api.Optional}, api.Token{Op: api.BeginComposite, Name: "C", Size: 20},
			coding("m", api.Int64, 0), fixed("e", api.Uint8, 3, 7, 8),
			api.Token{Op: api.BeginEnum, Name: "side", Offset: 9, Size: 1, Presence: api.Optional}, sideCoding(), api.Token{Op: api.Choice, Name: "A", Value: 65}, api.Token{Op: api.Choice, Name: "B", Value: 66, Since: 9}, end(api.EndEnum, "side"),
			api.Token{Op: api.BeginComposite, Name: "in", Offset: 10, Size: 8},
			api.Token{Op: api.BeginSet, Name: "flags", Offset: 12, Size: 2}, setCoding(api.Uint16, 12), api.Token{Op: api.Choice, Name: "x"}, api.Token{Op: api.Choice, Name: "y", Value: 15}, end(api.EndSet, "flags"),
			several("t", api.Int8, 14, 2), end(api.EndComposite, "in"),
			api.Token{Op: api.BeginComposite, Name: "nil", Offset: 20}, end(api.EndComposite, "nil"), coding("m", api.Char, 18), end(api.EndComposite, "C"), end(api.EndField, "c"),
			api.Token{Op: api.BeginField, Name: "s", ID: 14, Offset: 40, Size: 8, Since: 3, Presence: api.Optional},
			api.Token{Op: api.BeginSet, Name: "S", Size: 8}, setCoding(api.Uint64, 0), end(api.EndSet, "S"), end(api.EndField, "s"),
			api.Token{Op: api.BeginField, Name: "z", ID: 15, Since: 3, Presence: api.Optional}, api.Token{Op: api.BeginComposite, Name: "Z"}, fixed("q", api.Float, 0, 1), end(api.EndComposite, "Z"), end(api.EndField, "z"),
			api.Token{Op: api.BeginField, Name: "n", ID: 16, Since: 3, Presence: api.Optional},
			api.Token{Op: api.BeginEnum, Name: "N", Presence: api.Constant}, fixed("int16", api.Int16, 0, 3), api.Token{Op: api.Choice, Name: "K", Value: minus(32768)}, end(api.EndEnum, "N"), end(api.EndField, "n"),
			api.Token{Op: api.BeginGroup, Name: "g", ID: 20, Since: 1, Size: 5, Block: 9, Full: 10, A: spot(api.Uint16, 3), B: spot(api.Uint8, 0)},
			api.Token{Op: api.BeginField, Name: "a", ID: 21, Offset: 8, Size: 1, Since: 2, Presence: api.Optional}, coding("uint8", api.Uint8, 0), end(api.EndField, "a"),
			api.Token{Op: api.BeginGroup, Name: "h", ID: 22, Since: 1, Size: 8, A: spot(api.Uint32, 0), B: spot(api.Uint32, 4)},
			api.Token{Op: api.BeginData, Name: "d", ID: 23, Since: 1, Size: 1, A: spot(api.Uint8, 0), Prim: api.Char}, end(api.EndData, "d"), end(api.EndGroup, "h"),
			api.Token{Op: api.BeginData, Name: "d", ID: 24, Since: 1, Size: 2, A: spot(api.Uint16, 0), Prim: api.Uint8}, end(api.EndData, "d"), end(api.EndGroup, "g"),
			api.Token{Op: api.BeginGroup, Name: "g2", ID: 1, Since: 2, Size: 3, Block: 1, Full: 1, A: spot(api.Uint8, 2), B: spot(api.Uint8, 0)},
			api.Token{Op: api.BeginField, Name: "b", ID: 26, Size: 1, Since: 2}, coding("char", api.Char, 0), end(api.EndField, "b"), end(api.EndGroup, "g2"),
			api.Token{Op: api.BeginData, Name: "d", ID: 27, Since: 2, Size: 4, A: spot(api.Uint32, 0), Prim: api.Uint8}, end(api.EndData, "d"),
			api.Token{Op: api.BeginData, Name: "d2", ID: 28, Since: 4, Size: 1, A: spot(api.Uint8, 0)}, end(api.EndData, "d2"),
			end(api.EndMessage, "M"),
		)}
}

func sideCoding() api.Token {
	t := coding("char", api.Char, 9)
	t.Presence = api.Optional
	return t
}

// place is that of the token to which a path of names leads; the name behind $ is that of a token that ends.
func place(t testing.TB, f api.Form, path string) int {
	t.Helper()
	var open []string
	for i, x := range f.Tokens {
		begins, ends := x.Op < api.Encoding && x.Op%2 == 0, x.Op < api.Encoding && x.Op%2 == 1
		here := strings.Join(append(slices.Clone(open), x.Name), ".")
		if ends {
			here = strings.Join(append(slices.Clone(open), "$"+x.Name), ".")
			open = open[:len(open)-1]
		}
		if here == path {
			return i
		}
		if begins {
			open = append(open, x.Name)
		}
	}
	t.Fatalf("nothing at %s", path)
	return -1
}

// spoilt is a form of which something was changed at a path.
func spoilt(t testing.TB, f api.Form, path string, spoil func(x *api.Token)) (api.Form, int) {
	t.Helper()
	f = tidy(f)
	i := place(t, f, path)
	spoil(&f.Tokens[i])
	return f, i
}

// wantFault asks of a value that is no form the token that is told, and all other calls.
func wantFault(t *testing.T, what string, f api.Form, want int) {
	t.Helper()
	if e, at := ir.Check(f); e != api.ErrTokens || at != want {
		t.Errorf("P12.2: %s: error %d, %d; want %d", what, e, at, want)
	}
	if e, at := secondCheck(f); e != api.ErrTokens || at != want {
		t.Errorf("the second: %s: error %d, %d; want %d", what, e, at, want)
	}
	if lines, e := ir.Show(f); e != api.ErrTokens || lines != nil {
		t.Errorf("P12.5: %s: Show: %q, error %d", what, lines, e)
	}
	for i := -1; i <= min(len(f.Tokens), 20); i++ {
		name := "seq"
		if i >= 0 && i+1 < len(f.Tokens) {
			name = f.Tokens[i+1].Name
		}
		if parts, leaves := slices.Collect(ir.Parts(f, i)), slices.Collect(ir.Leaves(f, i)); len(parts) > 0 || len(leaves) > 0 || ir.Find(f, i, name) != -1 {
			t.Errorf("P12.3, P12.4: %s: at %d: %v, %v, %d", what, i, parts, leaves, ir.Find(f, i, name))
		}
	}
}

func wantForm(t *testing.T, what string, f api.Form) {
	t.Helper()
	if e, at := ir.Check(f); e != api.OK || at != 0 {
		t.Errorf("P12.2: %s: error %d, %d", what, e, at)
	}
	if e, at := secondCheck(f); e != api.OK || at != 0 {
		t.Errorf("the second: %s: error %d, %d", what, e, at)
	}
}

// Example 4 of the chapter; P12.2.
func TestChapterChecks(t *testing.T) {
	wantForm(t, "the form", chapterForm(t))
	for _, x := range []struct {
		what  string
		spoil func(f *api.Form)
		at    int
	}{
		{"Order 2", func(f *api.Form) { f.Order = 2 }, -1},
		{"Size 3 at 1", func(f *api.Form) { f.Tokens[1].Size = 3 }, 1},
		{"Size 3 at 1 and 2", func(f *api.Form) { f.Tokens[1].Size, f.Tokens[2].Size = 3, 3 }, 2},
		{"Offset 3 at 4", func(f *api.Form) { f.Tokens[4].Offset = 3 }, 4},
		{"Required at 4", func(f *api.Form) { f.Tokens[4].Presence = api.Required }, 4},
		{"Block 4", func(f *api.Form) { f.Tokens[0].Block = 4 }, 4},
		{"Block 6", func(f *api.Form) { f.Tokens[0].Block = 6 }, 0},
		{"Value 1 at 8", func(f *api.Form) { f.Tokens[8].Value = 1 }, 8},
		{"without the last", func(f *api.Form) { f.Tokens = f.Tokens[:13] }, 0},
		{"ID 1 at 11", func(f *api.Form) { f.Tokens[11].ID = 1 }, 11},
		{"no tokens", func(f *api.Form) { f.Tokens = nil }, 0},
		{"tokens of none", func(f *api.Form) { f.Tokens = []api.Token{} }, 0},
		{"nothing", func(f *api.Form) { *f = api.Form{} }, -1},
	} {
		f := tidy(chapterForm(t))
		x.spoil(&f)
		wantFault(t, x.what, f, x.at)
	}
}

// P12.2, point 1.
func TestHead(t *testing.T) {
	wantForm(t, "wide", wide())
	for _, x := range []struct {
		what  string
		spoil func(f *api.Form)
		ok    bool
	}{
		{"Little", func(f *api.Form) { f.Order = api.Little }, true},
		{"Order -1", func(f *api.Form) { f.Order = -1 }, false},
		{"Order 2", func(f *api.Form) { f.Order = 2 }, false},
		{"Schema 0", func(f *api.Form) { f.Schema = 0 }, true},
		{"Schema -1", func(f *api.Form) { f.Schema = -1 }, false},
		{"Schema 65534", func(f *api.Form) { f.Schema = 65534 }, true},
		{"Schema 65535, which two bytes can't tell", func(f *api.Form) { f.Schema = 65535 }, false},
		{"Schema 65535 in four bytes", func(f *api.Form) { f.Schema, f.Head.Size, f.Head.Schema = 65535, 14, spot(api.Uint32, 10) }, true},
		{"Schema 65536 in four bytes", func(f *api.Form) { f.Schema, f.Head.Size, f.Head.Schema = 65536, 14, spot(api.Uint32, 10) }, false},
		{"Schema 254 in one byte", func(f *api.Form) { f.Schema, f.Head.Schema.Prim = 254, api.Uint8 }, true},
		{"Schema 255 in one byte", func(f *api.Form) { f.Schema, f.Head.Schema.Prim = 255, api.Uint8 }, false},
		{"Version 65534", func(f *api.Form) { f.Version = 65534 }, true},
		{"Version 65535", func(f *api.Form) { f.Version = 65535 }, false},
		{"Version -1", func(f *api.Form) { f.Version = -1 }, false},
		{"Version 254 in one byte", func(f *api.Form) { f.Version, f.Head.Version.Prim = 254, api.Uint8 }, true},
		{"Version 255 in one byte", func(f *api.Form) { f.Version, f.Head.Version.Prim = 255, api.Uint8 }, false},
		{"Head.Size 9", func(f *api.Form) { f.Head.Size = 9 }, false},
		{"Head.Size 0", func(f *api.Form) { f.Head.Size = 0 }, false},
		{"Head.Size -1", func(f *api.Form) { f.Head.Size = -1 }, false},
		{"Head.Size 65535", func(f *api.Form) { f.Head.Size = 65535 }, true},
		{"Head.Size 65536", func(f *api.Form) { f.Head.Size = 65536 }, false},
		{"Head.Size 65535, filled", func(f *api.Form) { f.Head.Size, f.Head.Schema.Offset = 65535, 65533 }, true},
		{"the greatest Head.Size", func(f *api.Form) { f.Head.Size = math.MaxInt }, false},
		{"Block at 9", func(f *api.Form) { f.Head.Block.Offset = 9 }, false},
		{"Block at -1", func(f *api.Form) { f.Head.Block.Offset = -1 }, false},
		{"Block at the greatest place", func(f *api.Form) { f.Head.Block.Offset = math.MaxInt }, false},
		{"Block at the least place", func(f *api.Form) { f.Head.Block.Offset = math.MinInt }, false},
		{"Block at 7", func(f *api.Form) { f.Head.Block.Offset = 7 }, true},
		{"Block at 6, over Schema", func(f *api.Form) { f.Head.Block.Offset = 6 }, false},
		{"Block over the last byte of Version", func(f *api.Form) { f.Head.Block.Offset, f.Head.Schema.Offset = 4, 7 }, false},
		{"Template at 1, over Version", func(f *api.Form) { f.Head.Template.Offset = 1 }, false},
		{"Template in Version's midst", func(f *api.Form) { f.Head.Template.Offset = 3 }, false},
		{"Template at -1", func(f *api.Form) { f.Head.Template.Offset = -1 }, false},
		{"Template at 7", func(f *api.Form) { f.Head.Template.Offset = 7 }, true},
		{"Template at 10", func(f *api.Form) { f.Head.Template.Offset = 10 }, false},
		{"Schema where Block is", func(f *api.Form) { f.Head.Schema.Offset = 8 }, false},
		{"Schema at -2", func(f *api.Form) { f.Head.Schema.Offset = -2 }, false},
		{"Schema at 9", func(f *api.Form) { f.Head.Schema.Offset = 9 }, false},
		{"Version at 0, over Template", func(f *api.Form) { f.Head.Version.Offset = 0 }, false},
		{"Version at 7", func(f *api.Form) { f.Head.Version.Offset = 7 }, false},
		{"Version at -4", func(f *api.Form) { f.Head.Version.Offset = -4 }, false},
		{"Block Uint64", func(f *api.Form) { f.Head.Size, f.Head.Block = 18, spot(api.Uint64, 10) }, false},
		{"Block Int16", func(f *api.Form) { f.Head.Block.Prim = api.Int16 }, false},
		{"Template Char", func(f *api.Form) { f.Head.Template.Prim = api.Char }, false},
		{"Template Int8", func(f *api.Form) { f.Head.Template.Prim = api.Int8 }, false},
		{"Schema Float", func(f *api.Form) { f.Head.Schema = spot(api.Float, 5) }, false},
		{"Schema 11", func(f *api.Form) { f.Head.Schema.Prim = 11 }, false},
		{"Version Int32", func(f *api.Form) { f.Head.Version.Prim = api.Int32 }, false},
		{"Version -1", func(f *api.Form) { f.Head.Version.Prim = -1 }, false},
		{"-1 ahead of no tokens", func(f *api.Form) { f.Order, f.Tokens = 2, nil }, false},
	} {
		f := wide()
		x.spoil(&f)
		if x.ok {
			wantForm(t, x.what, f)
		} else {
			wantFault(t, x.what, f, -1)
		}
	}
}

// spoil is a change of a token, told in words, and whether it leaves a form.
type spoil struct {
	path, what string
	change     func(x *api.Token)
	ok         bool
}

func tryAll(t *testing.T, spoils []spoil) {
	t.Helper()
	for _, x := range spoils {
		f, i := spoilt(t, wide(), x.path, x.change)
		if x.ok {
			wantForm(t, x.path+": "+x.what, f)
		} else {
			wantFault(t, x.path+": "+x.what, f, i)
		}
	}
}

// setters set a field of a token to what isn't zero.
func setters() map[string]func(x *api.Token) {
	return map[string]func(x *api.Token){
		"ID": func(x *api.Token) { x.ID = 99 }, "Offset": func(x *api.Token) { x.Offset = 1 }, "Size": func(x *api.Token) { x.Size = 1 },
		"Since": func(x *api.Token) { x.Since = 1 }, "Prim": func(x *api.Token) { x.Prim = api.Int8 }, "Length": func(x *api.Token) { x.Length = 1 },
		"Presence": func(x *api.Token) { x.Presence = api.Optional }, "Null": func(x *api.Token) { x.Null = 1 }, "Min": func(x *api.Token) { x.Min = 1 },
		"Max": func(x *api.Token) { x.Max = 1 }, "Const": func(x *api.Token) { x.Const = []uint64{0} }, "Value": func(x *api.Token) { x.Value = 1 },
		"Block": func(x *api.Token) { x.Block = 1 }, "Full": func(x *api.Token) { x.Full = 1 },
		"A.Prim": func(x *api.Token) { x.A.Prim = 1 }, "A.Offset": func(x *api.Token) { x.A.Offset = 1 }, "B.Prim": func(x *api.Token) { x.B.Prim = 1 }, "B.Offset": func(x *api.Token) { x.B.Offset = 1 },
	}
}

// P12.2, point 3: what the table doesn't name is zero.
func TestOtherFields(t *testing.T) {
	f := wide()
	has := map[api.TokenOp]string{
		api.BeginMessage: "ID Since Block Full", api.BeginField: "ID Offset Size Since Presence Const", api.BeginGroup: "ID Since Size Block Full A.Prim A.Offset B.Prim B.Offset",
		api.BeginData: "ID Since Size A.Prim A.Offset Prim", api.BeginComposite: "Offset Size", api.BeginEnum: "Offset Size Presence", api.BeginSet: "Offset Size Presence",
		api.Encoding: "Offset Size Prim Length Presence Null Min Max Const", api.Choice: "Value Since",
	}
	for i, x := range f.Tokens {
		for name, set := range setters() {
			if slices.Contains(strings.Fields(has[x.Op]), name) {
				continue
			}
			g := tidy(f)
			set(&g.Tokens[i])
			wantFault(t, fmt.Sprintf("%d: %s of Op %d", i, name, x.Op), g, i)
		}
		g := tidy(f)
		if x.Presence != api.Constant {
			g.Tokens[i].Const = []uint64{}
		}
		wantForm(t, fmt.Sprintf("%d: a Const of no elements", i), g)
	}
}

// P12.2, point 3: names.
func TestNames(t *testing.T) {
	f := wide()
	for i, x := range f.Tokens {
		for _, name := range []string{"", "9a", "a b", "a.b", "ä", strings.Repeat("x", 65)} {
			g := tidy(f)
			g.Tokens[i].Name = name
			want := i
			if x.Op < api.Encoding && x.Op%2 == 1 {
				want = x.Pair
			}
			wantFault(t, fmt.Sprintf("%d: the name %q", i, name), g, want)
			if x.Op < api.Encoding {
				g.Tokens[x.Pair].Name = name
				wantFault(t, fmt.Sprintf("%d: the name %q, and its pair's", i, name), g, min(i, x.Pair))
			}
		}
		long := strings.Repeat("x", 64)
		g := tidy(f)
		g.Tokens[i].Name = long
		if x.Op < api.Encoding {
			wantFault(t, fmt.Sprintf("%d: another name than its pair's", i), g, min(i, x.Pair))
			g.Tokens[x.Pair].Name = long
		}
		wantForm(t, fmt.Sprintf("%d: a long name", i), g)
	}
}

// P12.2, point 3: pairs.
func TestPairs(t *testing.T) {
	f := wide()
	for i, x := range f.Tokens {
		for _, pair := range []int{math.MinInt, -1, 0, i - 1, i, i + 1, x.Pair - 1, x.Pair + 1, len(f.Tokens) - 1, len(f.Tokens), math.MaxInt} {
			if pair == x.Pair {
				continue
			}
			g := tidy(f)
			g.Tokens[i].Pair = pair
			want := i
			if x.Op < api.Encoding && x.Op%2 == 1 {
				want = x.Pair // the one that begins it isn't its pair's pair
			}
			wantFault(t, fmt.Sprintf("%d: the pair %d", i, pair), g, want)
		}
	}
	// Two fields of one name, with the ends of each other: right of the first, but for the end that comes first.
	g := api.Form{Head: f.Head, Tokens: paired(
		api.Token{Op: api.BeginMessage, Name: "M"},
		api.Token{Op: api.BeginField, Name: "a"}, api.Token{Op: api.BeginComposite, Name: "C"}, end(api.EndComposite, "C"), end(api.EndField, "a"),
		api.Token{Op: api.BeginGroup, Name: "g", ID: 1, Size: 2, A: spot(api.Uint8, 0), B: spot(api.Uint8, 1)},
		api.Token{Op: api.BeginField, Name: "a", ID: 2}, api.Token{Op: api.BeginComposite, Name: "C"}, end(api.EndComposite, "C"), end(api.EndField, "a"),
		end(api.EndGroup, "g"), end(api.EndMessage, "M"))}
	wantForm(t, "two fields", g)
	g.Tokens[1].Pair, g.Tokens[9].Pair, g.Tokens[6].Pair, g.Tokens[4].Pair = 9, 1, 4, 6
	wantFault(t, "crossed fields", g, 4)
	g.Tokens[4].Pair = 1
	wantFault(t, "a field with another one's end", g, 4)
	g.Tokens[1].Pair, g.Tokens[9].Pair = 4, 6
	wantFault(t, "an end ahead", g, 6)
}

// P12.2, point 4.
func TestIDsAndNames(t *testing.T) {
	id := func(n int) func(x *api.Token) { return func(x *api.Token) { x.ID = n } }
	tryAll(t, []spoil{
		{"M", "ID 0", id(0), true}, {"M", "ID -1", id(-1), false}, {"M", "ID 10, a field's", id(10), true}, {"M", "ID 254", id(254), true}, {"M", "ID 255 in one byte", id(255), false}, {"M", "ID 65536", id(65536), false},
		{"M.a", "ID 0", id(0), true}, {"M.a", "ID -1", id(-1), false}, {"M.a", "ID 65535", id(65535), true}, {"M.a", "ID 65536", id(65536), false}, {"M.a", "the least ID", id(math.MinInt), false},
		{"M.arr", "ID 10", id(10), false}, {"M.k", "ID 11", id(11), false}, {"M.g", "ID 16", id(16), false}, {"M.g.a", "ID 10", id(10), false}, {"M.g.h", "ID 20", id(20), false},
		{"M.g.h", "ID -1", id(-1), false}, {"M.g.h", "ID 65535", id(65535), true}, {"M.g.h", "ID 65536", id(65536), false},
		{"M.g.h.d", "ID 13", id(13), false}, {"M.g.d", "ID 23", id(23), false}, {"M.d2", "ID 1, g2's", id(1), false}, {"M.d2", "ID 27", id(27), false},
		{"M.d2", "ID -1", id(-1), false}, {"M.d2", "ID 0", id(0), true}, {"M.d2", "ID 65535", id(65535), true}, {"M.d2", "ID 65536", id(65536), false},
	})
	// A later one has the ID, or the name, of one ahead: the later one is told.
	f := wide()
	f.Tokens[place(t, f, "M.a")].ID = 28
	wantFault(t, "ID 28", f, place(t, f, "M.d2"))
	rename := func(path, name string) api.Form {
		f := wide()
		i := place(t, f, path)
		f.Tokens[i].Name, f.Tokens[f.Tokens[i].Pair].Name = name, name
		return f
	}
	for _, x := range []struct {
		path, name string
		ok         bool
	}{
		{"M", "a", true}, {"M.arr", "a", false}, {"M.arr", "A", true}, {"M.g", "a", false}, {"M.g2", "g", false}, {"M.d", "k", false}, {"M.d2", "d", false}, {"M.d2", "g", false},
		{"M.g", "M", true}, {"M.g.a", "arr", true}, {"M.g.a", "g", true}, {"M.g.h", "a", false}, {"M.g.d", "h", false}, {"M.g.d", "a", false}, {"M.g.h.d", "h", true}, {"M.d2", "h", true},
		{"M.c.C.side", "m", true}, {"M.c.C", "c", true},
	} {
		if f := rename(x.path, x.name); x.ok {
			wantForm(t, x.path+" as "+x.name, f)
		} else {
			at := place(t, wide(), x.path)
			wantFault(t, x.path+" as "+x.name, f, at)
		}
	}
}

// P12.2, point 5.
func TestSince(t *testing.T) {
	since := func(n int) func(x *api.Token) { return func(x *api.Token) { x.Since = n } }
	tryAll(t, []spoil{
		{"M", "since -1", since(-1), false}, {"M", "since 5", since(5), false},
		{"M.a", "since 0", since(0), false}, {"M.arr", "since 0", since(0), false}, {"M.arr", "since 2", since(2), true},
		{"M.k", "since 1", since(1), true}, {"M.c", "since 1", since(1), false}, {"M.c", "since 3", since(3), true}, {"M.s", "since 1", since(1), false},
		{"M.n", "since 4", since(4), true}, {"M.n", "since 5", since(5), false}, {"M.n", "since 2", since(2), false}, {"M.n", "the greatest", since(math.MaxInt), false}, {"M.n", "the least", since(math.MinInt), false},
		{"M.g.a", "since 1", since(1), true}, {"M.g.a", "since 0", since(0), false}, {"M.g.a", "since 4", since(4), true}, {"M.g.a", "since 5", since(5), false},
		{"M.g", "since 0", since(0), false}, {"M.g.h", "since 2", since(2), false}, {"M.g.h", "since 0", since(0), false}, {"M.g.h.d", "since 2", since(2), false}, {"M.g.h.d", "since 0", since(0), false},
		{"M.g.d", "since 2", since(2), false}, {"M.g.d", "since 0", since(0), false},
		{"M.g2", "since 0", since(0), false}, {"M.d", "since 1", since(1), false}, {"M.d", "since 4", since(4), true}, {"M.d2", "since 1", since(1), false}, {"M.d2", "since 2", since(2), true}, {"M.d2", "since 5", since(5), false},
		{"M.c.C.side.A", "since -1", since(-1), false}, {"M.c.C.side.A", "since 65534", since(65534), true}, {"M.c.C.side.A", "since 65535", since(65535), false},
		{"M.c.C.in.flags.y", "since -1", since(-1), false}, {"M.c.C.in.flags.y", "since 65534", since(65534), true}, {"M.c.C.in.flags.y", "since 65535", since(65535), false},
	})
	f := wide()
	f.Tokens[0].Since = 0
	wantFault(t, "M since 0", f, 1) // a is Required, and came later
	f.Tokens[1].Since = 0
	wantForm(t, "M and a since 0", f)
	f = wide()
	f.Tokens[0].Since = 2
	wantFault(t, "M since 2", f, 1)
	f = wide()
	f.Version = 3
	wantFault(t, "Version 3", f, place(t, f, "M.d2"))
	f.Version = 0
	wantFault(t, "Version 0", f, 0)
	f = wide()
	f.Tokens[place(t, f, "M.g2")].Since = 1
	wantFault(t, "g2 since 1", f, place(t, f, "M.g2.b"))
	f.Tokens[place(t, f, "M.g2.b")].Since = 1
	wantForm(t, "g2 and b since 1", f)
	f = wide()
	f.Tokens[place(t, f, "M.g2")].Since = 3
	wantFault(t, "g2 since 3", f, place(t, f, "M.g2.b"))
	// Fields are no row, and what is in a group is none of the message.
	f = wide()
	for _, path := range []string{"M.arr", "M.k", "M.c", "M.s", "M.z", "M.n", "M.g.a"} {
		f.Tokens[place(t, f, path)].Since = 4
	}
	wantForm(t, "fields since 4", f)
	f.Tokens[place(t, f, "M.g")].Since = 2
	wantFault(t, "g since 2", f, place(t, f, "M.g.h"))
	f.Tokens[place(t, f, "M.g.h")].Since, f.Tokens[place(t, f, "M.g.d")].Since = 2, 2
	wantFault(t, "g and what is in it since 2", f, place(t, f, "M.g.h.d"))
}

// P12.2, point 6.
func TestBlocks(t *testing.T) {
	block := func(block, full int) func(x *api.Token) {
		return func(x *api.Token) { x.Block, x.Full = block, full }
	}
	a := func(p api.Prim, offset int) func(x *api.Token) {
		return func(x *api.Token) { x.A = spot(p, offset) }
	}
	b := func(p api.Prim, offset int) func(x *api.Token) {
		return func(x *api.Token) { x.B = spot(p, offset) }
	}
	size := func(n int) func(x *api.Token) { return func(x *api.Token) { x.Size = n } }
	tryAll(t, []spoil{
		{"M", "Block 71", block(71, 70), false}, {"M", "Block 70", block(70, 70), true}, {"M", "Block 48", block(48, 70), true}, {"M", "Block -1", block(-1, 70), false}, {"M", "the least Block", block(math.MinInt, 70), false},
		{"M", "Full 65534", block(60, 65534), true}, {"M", "Full 65535 in two bytes", block(60, 65535), false}, {"M", "Full -1", block(-2, -1), false},
		{"M.g", "Block 11", block(11, 10), false}, {"M.g", "Block -1", block(-1, 10), false}, {"M.g", "Block 10", block(10, 10), true}, {"M.g", "Full 65534", block(9, 65534), true}, {"M.g", "Full 65535 in two bytes", block(9, 65535), false},
		{"M.g.h", "Full 65535 in four bytes", block(0, 65535), true}, {"M.g.h", "Full 65536", block(0, 65536), false}, {"M.g.h", "Full -1", block(0, -1), false},
		{"M.g2", "Full 254 in one byte", block(1, 254), true}, {"M.g2", "Full 255 in one byte", block(1, 255), false},
		{"M.g", "Size 4", size(4), false}, {"M.g", "Size 0", size(0), false}, {"M.g", "Size -1", size(-1), false}, {"M.g", "Size 65535", size(65535), true}, {"M.g", "Size 65536", size(65536), false}, {"M.g", "the greatest Size", size(math.MaxInt), false},
		{"M.g", "A at 4", a(api.Uint16, 4), false}, {"M.g", "A at 2", a(api.Uint16, 2), true}, {"M.g", "A at 1", a(api.Uint16, 1), true}, {"M.g", "A at 0, over B", a(api.Uint16, 0), false}, {"M.g", "A at -1", a(api.Uint16, -1), false}, {"M.g", "A at the greatest place", a(api.Uint16, math.MaxInt), false},
		{"M.g", "A Int16", a(api.Int16, 3), false}, {"M.g", "A Uint32", a(api.Uint32, 1), true}, {"M.g", "A Uint64", a(api.Uint64, 0), false}, {"M.g", "A Char", a(api.Char, 3), false}, {"M.g", "A 11", a(11, 3), false}, {"M.g", "A -1", a(-1, 3), false},
		{"M.g", "B at 3, over A", b(api.Uint8, 3), false}, {"M.g", "B at 4, over A", b(api.Uint8, 4), false}, {"M.g", "B at 2", b(api.Uint8, 2), true}, {"M.g", "B at 5", b(api.Uint8, 5), false}, {"M.g", "B at -1", b(api.Uint8, -1), false}, {"M.g", "B at the least place", b(api.Uint8, math.MinInt), false},
		{"M.g", "B Int8", b(api.Int8, 0), false}, {"M.g", "B Char", b(api.Char, 0), false}, {"M.g", "B Uint16", b(api.Uint16, 1), true}, {"M.g", "B Uint16 over A", b(api.Uint16, 2), false}, {"M.g", "B Float", b(api.Float, 0), false}, {"M.g", "B 11", b(11, 0), false},
		{"M.d", "A at 1", a(api.Uint32, 1), false}, {"M.d", "A at -1", a(api.Uint32, -1), false}, {"M.d", "A Uint16", a(api.Uint16, 0), false}, {"M.d", "A Int32", a(api.Int32, 0), false}, {"M.d", "A Float", a(api.Float, 0), false},
		{"M.d", "Size 3", size(3), false}, {"M.d", "Size 8", size(8), false}, {"M.d", "Size 0", size(0), false}, {"M.d", "Size -4", size(-4), false},
		{"M.d", "Uint64", func(x *api.Token) { x.A.Prim, x.Size = api.Uint64, 8 }, false}, {"M.d", "no type", func(x *api.Token) { x.A.Prim, x.Size = 11, 0 }, false}, {"M.d", "Uint16", func(x *api.Token) { x.A.Prim, x.Size = api.Uint16, 2 }, true},
		{"M.d", "bytes of Char", func(x *api.Token) { x.Prim = api.Char }, true}, {"M.d", "bytes of Int8", func(x *api.Token) { x.Prim = api.Int8 }, false}, {"M.d", "bytes of Uint16", func(x *api.Token) { x.Prim = api.Uint16 }, false},
		{"M.d", "bytes of 11", func(x *api.Token) { x.Prim = 11 }, false}, {"M.d", "bytes of -1", func(x *api.Token) { x.Prim = -1 }, false},
	})
	f := wide()
	f.Tokens[0].Block = 47
	wantFault(t, "Block 47", f, place(t, f, "M.s"))
	f.Tokens[0].Block = 0
	wantFault(t, "Block 0", f, place(t, f, "M.a"))
	f = wide()
	f.Tokens[0].Full, f.Head.Block, f.Head.Size = 65535, spot(api.Uint32, 10), 14
	wantForm(t, "Full 65535 in four bytes", f)
	f.Tokens[0].Full = 65536
	wantFault(t, "Full 65536 in four bytes", f, 0)
	f = wide()
	f.Head.Block.Prim, f.Tokens[0].Full = api.Uint8, 254
	wantForm(t, "Full 254 in one byte", f)
	f.Tokens[0].Full = 255
	wantFault(t, "Full 255 in one byte", f, 0)
	f = wide()
	f.Head.Template, f.Head.Size, f.Tokens[0].ID = spot(api.Uint16, 10), 12, 65534
	wantForm(t, "ID 65534 in two bytes", f)
	f.Tokens[0].ID = 65535
	wantFault(t, "ID 65535 in two bytes", f, 0)
	f.Head.Template, f.Head.Size = spot(api.Uint32, 10), 14
	wantForm(t, "ID 65535 in four bytes", f)
	f.Tokens[0].ID = 65536
	wantFault(t, "ID 65536 in four bytes", f, 0)
}

// P12.2, point 7.
func TestFields(t *testing.T) {
	presence := func(p api.Presence) func(x *api.Token) { return func(x *api.Token) { x.Presence = p } }
	lies := func(offset, size int) func(x *api.Token) {
		return func(x *api.Token) { x.Offset, x.Size = offset, size }
	}
	words := func(words ...uint64) func(x *api.Token) { return func(x *api.Token) { x.Const = words } }
	tryAll(t, []spoil{
		{"M.a", "Optional", presence(api.Optional), true}, {"M.a", "Presence 3", presence(3), false}, {"M.a", "Presence -1", presence(-1), false}, {"M.a", "Constant", presence(api.Constant), false},
		{"M.arr", "Required", presence(api.Required), true}, {"M.c", "Required, but later", presence(api.Required), false}, {"M.g.a", "Required, but later", presence(api.Required), false}, {"M.z", "Required, but later", presence(api.Required), false},
		{"M.k", "Optional with Const", presence(api.Optional), false}, {"M.k", "without Const", words(), false}, {"M.k", "one word", words(math.MaxUint64), true}, {"M.k", "Offset 1", lies(1, 0), false}, {"M.k", "Size 1", lies(0, 1), false}, {"M.k", "Offset -1", lies(-1, 0), false},
		{"M.a", "Const", words(0), false}, {"M.c", "Const", words(1, 2), false}, {"M.z", "Const", words(0), false},
		{"M.a", "Size 3", lies(2, 3), false}, {"M.a", "Size 5", lies(2, 5), false}, {"M.a", "Size 0", lies(0, 0), false}, {"M.a", "Offset 0", lies(0, 4), true}, {"M.a", "Offset 4", lies(4, 4), true}, {"M.a", "Offset -1", lies(-1, 4), false}, {"M.a", "the least Offset", lies(math.MinInt, 4), false}, {"M.a", "the greatest Offset", lies(math.MaxInt, 4), false},
		{"M.arr", "Offset 6", lies(6, 6), true}, {"M.arr", "Offset 5", lies(5, 6), false}, {"M.arr", "Offset 0", lies(0, 6), false}, {"M.arr", "Offset 14", lies(14, 6), true},
		{"M.c", "Offset 14", lies(14, 20), true}, {"M.c", "Offset 13", lies(13, 20), false}, {"M.c", "Offset 0", lies(0, 20), false},
		{"M.s", "Offset 52", lies(52, 8), true}, {"M.s", "Offset 53", lies(53, 8), false}, {"M.s", "Offset 39", lies(39, 8), false}, {"M.s", "an end beyond all", lies(math.MaxInt-7, 8), false},
		{"M.z", "Offset 1", lies(1, 0), false}, {"M.z", "Offset 50", lies(50, 0), false}, {"M.z", "Size -1", lies(0, -1), false}, {"M.n", "Size 2", lies(50, 2), false},
		{"M.g.a", "Offset 0", lies(0, 1), true}, {"M.g.a", "Offset 9", lies(9, 1), false}, {"M.g.a", "Offset -1", lies(-1, 1), false},
	})
	// The offset of what isn't sized is no matter to what follows, and each block is its own.
	both := func(path string, offset, size int) (api.Form, int) {
		f := wide()
		i := place(t, f, path)
		f.Tokens[i].Offset, f.Tokens[i].Size, f.Tokens[i+1].Size = offset, size, size
		return f, i
	}
	f, i := both("M.a", 2, -4)
	wantFault(t, "Size -4 of both", f, i)
	f, i = both("M.a", 2, math.MinInt)
	wantFault(t, "the least Size of both", f, i)
	f, i = both("M.a", 2, math.MaxInt)
	wantFault(t, "the greatest Size of both", f, i)
	f, i = both("M.c", 14, 46)
	wantFault(t, "c over s", f, place(t, f, "M.s"))
	f.Tokens[i].Offset, f.Tokens[i].Size = 14, 26
	f.Tokens[i+1].Size = 26
	wantForm(t, "c up to s", f)
	f, i = both("M.g.a", 0, 10)
	wantFault(t, "g.a beyond its Block", f, i)
	f, _ = both("M.g.a", 0, 9)
	wantFault(t, "g.a of nine bytes", f, place(t, f, "M.g.a.uint8"))
	f = wide()
	f.Tokens[place(t, f, "M.c")].Presence = api.Constant
	wantFault(t, "c Constant", f, place(t, f, "M.c"))
	c := &f.Tokens[place(t, f, "M.c")]
	c.Offset, c.Size, c.Const = 0, 0, []uint64{1}
	wantForm(t, "c Constant, whatever its type", f)
}

// P12.2, point 8.
func TestWhatTypesHave(t *testing.T) {
	lies := func(offset, size int) func(x *api.Token) {
		return func(x *api.Token) { x.Offset, x.Size = offset, size }
	}
	presence := func(p api.Presence) func(x *api.Token) { return func(x *api.Token) { x.Presence = p } }
	one := func(p api.Prim) func(x *api.Token) {
		return func(x *api.Token) {
			x.Prim, x.Size, x.Null, x.Min, x.Max = p, prim.Size(p), prim.Null(p), prim.Min(p), prim.Max(p)
		}
	}
	tryAll(t, []spoil{
		{"M.a.uint32", "Offset 1", lies(1, 4), false}, {"M.a.uint32", "Offset -1", lies(-1, 4), false}, {"M.k.E", "Offset 1", lies(1, 1), false}, {"M.c.C", "Offset 1", lies(1, 20), false}, {"M.s.S", "Offset -1", lies(-1, 8), false},
		{"M.c.C.m", "Offset 1", lies(1, 8), true}, {"M.c.C.m", "Offset -1", lies(-1, 8), false}, {"M.c.C.e", "Offset 0", lies(0, 0), true}, {"M.c.C.e", "Offset 20", lies(20, 0), true}, {"M.c.C.e", "Offset 21", lies(21, 0), false}, {"M.c.C.e", "Offset -1", lies(-1, 0), false}, {"M.c.C.e", "the greatest Offset", lies(math.MaxInt, 0), false},
		{"M.c.C.in", "Offset 10, Size 7", lies(10, 7), true}, {"M.c.C.in", "Offset 9", lies(9, 9), false}, {"M.c.C.in", "over the last's end", lies(12, 9), false}, {"M.c.C.in", "the least Size", lies(10, math.MinInt), false}, {"M.c.C.in", "the greatest Size", lies(10, math.MaxInt), false},
		{"M.c.C.in.t", "Offset 16", lies(16, 2), true}, {"M.c.C.in.t", "Offset 17", lies(17, 2), false}, {"M.c.C.in.t", "Offset 13, over flags", lies(13, 2), false}, {"M.c.C.in.t", "Offset 9", lies(9, 2), false},
		{"M.c.C.nil", "Offset 0", lies(0, 0), true}, {"M.c.C.nil", "Offset 21", lies(21, 0), false}, {"M.c.C.nil", "Size -1", lies(20, -1), false}, {"M.c.C.nil", "Size 1 at 20", lies(20, 1), false},
		{"M.c.C.side", "Presence 3", presence(3), false}, {"M.c.C.side", "Presence -1", presence(-1), false}, {"M.s.S", "Presence 3", presence(3), false},
		{"M.c.C.side.char", "Offset 8", lies(8, 1), false}, {"M.c.C.side.char", "Required", presence(api.Required), false}, {"M.c.C.in.flags.uint16", "Offset 10", lies(10, 2), false}, {"M.c.C.in.flags.uint16", "Optional", presence(api.Optional), false},
		{"M.k.E.int8", "Length 0", func(x *api.Token) { x.Length = 0 }, false}, {"M.k.E.int8", "Length 2", func(x *api.Token) { x.Length = 2 }, false},
		{"M.k.E.int8", "Int16, two bytes", one(api.Int16), false}, {"M.k.E.int8", "11", func(x *api.Token) { x.Prim = 11 }, false},
		{"M.s.S.uint64", "Int64", one(api.Int64), false}, {"M.s.S.uint64", "Double", one(api.Double), false}, {"M.s.S.uint64", "Length 8 of Uint8", func(x *api.Token) { *x = several("uint64", api.Uint8, 0, 8); x.Pair = 36 }, false},
		{"M.a.uint32", "Presence 3", presence(3), false}, {"M.a.uint32", "Presence -1", presence(-1), false}, {"M.a.uint32", "Optional", presence(api.Optional), true}, {"M.a.uint32", "Constant", presence(api.Constant), false},
	})
	f := wide()
	i := place(t, f, "M.c.C.side")
	f.Tokens[i].Offset = 8
	f.Tokens[i+1].Offset = 8
	wantForm(t, "side right behind m", f)
	f.Tokens[i].Offset = 7
	wantFault(t, "side over m", f, i)
	f = wide()
	f.Tokens[place(t, f, "M.c.C.m")].Offset = 2
	wantFault(t, "m up to side's midst", f, place(t, f, "M.c.C.side"))
	// What takes no bytes is no matter to what follows.
	f = wide()
	f.Tokens[place(t, f, "M.c.C.e")].Offset = 20
	wantForm(t, "e at the end", f)
	// Enums and sets of all types.
	for p := api.Prim(-1); p <= 11; p++ {
		coded := func(op api.TokenOp) api.Form {
			return api.Form{Head: wide().Head, Tokens: paired(
				api.Token{Op: api.BeginMessage, Name: "M", Block: 8, Full: 8}, api.Token{Op: api.BeginField, Name: "f", Size: prim.Size(p)},
				api.Token{Op: op, Name: "T", Size: prim.Size(p)}, coding("x", p, 0), end(op+1, "T"), end(api.EndField, "f"), end(api.EndMessage, "M"))}
		}
		for op, ok := range map[api.TokenOp]bool{api.BeginEnum: p >= api.Char && p <= api.Uint64, api.BeginSet: p >= api.Uint8 && p <= api.Uint64} {
			if what := fmt.Sprintf("Op %d of %d", op, p); ok {
				wantForm(t, what, coded(op))
			} else {
				wantFault(t, what, coded(op), 3)
			}
		}
	}
	// Sizes up to MaxBlock, and beyond.
	for size, ok := range map[int]bool{65535: true, 65536: false} {
		f := api.Form{Head: wide().Head, Tokens: paired(api.Token{Op: api.BeginMessage, Name: "M", Block: 65534, Full: 65534},
			api.Token{Op: api.BeginField, Name: "f", Presence: api.Constant, Const: []uint64{1}},
			api.Token{Op: api.BeginComposite, Name: "C", Size: size}, end(api.EndComposite, "C"), end(api.EndField, "f"), end(api.EndMessage, "M"))}
		if what := fmt.Sprintf("Size %d", size); ok {
			wantForm(t, what, f)
		} else {
			wantFault(t, what, f, 2)
		}
	}
}

// P12.2, point 9.
func TestEncodings(t *testing.T) {
	var spoils []spoil
	set := func(path, what string, ok bool, change func(x *api.Token)) {
		spoils = append(spoils, spoil{path, what, change, ok})
	}
	for _, w := range []struct {
		word uint64
		ok   bool
	}{{1<<32 - 1, true}, {0, true}, {1 << 32, false}, {math.MaxUint64, false}} {
		set("M.a.uint32", fmt.Sprint("Null ", w.word), w.ok, func(x *api.Token) { x.Null = w.word })
		set("M.a.uint32", fmt.Sprint("Min ", w.word), w.ok, func(x *api.Token) { x.Min = w.word })
		set("M.a.uint32", fmt.Sprint("Max ", w.word), w.ok, func(x *api.Token) { x.Max = w.word })
	}
	for _, w := range []struct {
		word uint64
		ok   bool
	}{{minus(128), true}, {127, true}, {128, false}, {minus(129), false}} {
		set("M.k.E.int8", fmt.Sprint("Null ", w.word), w.ok, func(x *api.Token) { x.Null = w.word })
	}
	set("M.a.uint32", "Prim 11", false, func(x *api.Token) { x.Prim = 11 })
	set("M.a.uint32", "Prim -1", false, func(x *api.Token) { x.Prim = -1 })
	set("M.a.uint32", "Float, of the same size", true, func(x *api.Token) { x.Prim = api.Float })
	set("M.a.uint32", "Length 2 of Uint16", false, func(x *api.Token) { x.Prim, x.Length = api.Uint16, 2 })
	set("M.a.uint32", "Length 2 of Uint16 with its numbers", true, func(x *api.Token) { x.Prim, x.Length, x.Null, x.Max = api.Uint16, 2, 1, 2 })
	set("M.a.uint32", "Length 0", false, func(x *api.Token) { x.Length = 0 })
	set("M.a.uint32", "Length -1", false, func(x *api.Token) { x.Length = -1 })
	set("M.a.uint32", "Length 2", false, func(x *api.Token) { x.Length = 2 })
	set("M.a.uint32", "a Length that wraps", false, func(x *api.Token) { x.Length = 1<<62 + 1 })
	set("M.a.uint32", "Const", false, func(x *api.Token) { x.Const = []uint64{1} })
	set("M.arr.Arr", "Constant without Const", false, func(x *api.Token) { x.Presence = api.Constant })
	set("M.c.C.e", "Const of one", false, func(x *api.Token) { x.Const = []uint64{7} })
	set("M.c.C.e", "Const of three", false, func(x *api.Token) { x.Const = []uint64{7, 8, 9} })
	set("M.c.C.e", "Const of none", false, func(x *api.Token) { x.Const = nil })
	set("M.c.C.e", "no word ahead", false, func(x *api.Token) { x.Const = []uint64{256, 8} })
	set("M.c.C.e", "no word behind", false, func(x *api.Token) { x.Const = []uint64{7, 256} })
	set("M.c.C.e", "great words", true, func(x *api.Token) { x.Const = []uint64{255, 0} })
	set("M.c.C.e", "Size 2", false, func(x *api.Token) { x.Size = 2 })
	set("M.c.C.e", "Length 0", false, func(x *api.Token) { x.Length, x.Const = 0, nil })
	set("M.c.C.e", "Prim 11", false, func(x *api.Token) { x.Prim = 11 })
	set("M.c.C.e", "65535 elements", true, func(x *api.Token) { x.Length, x.Const = 65535, make([]uint64, 65535) })
	set("M.c.C.e", "65536 elements", false, func(x *api.Token) { x.Length, x.Const = 65536, make([]uint64, 65536) })
	set("M.c.C.e", "Optional", false, func(x *api.Token) { x.Presence = api.Optional })
	set("M.n.N.int16", "Const of two", false, func(x *api.Token) { x.Const, x.Length = []uint64{1, 2}, 2 })
	tryAll(t, spoils)
	long := func(length int) api.Form {
		return api.Form{Head: api.Head{Size: 16, Block: spot(api.Uint32, 0), Template: spot(api.Uint32, 4), Schema: spot(api.Uint32, 8), Version: spot(api.Uint32, 12)}, Tokens: paired(
			api.Token{Op: api.BeginMessage, Name: "M", Block: 65535, Full: 65535},
			api.Token{Op: api.BeginField, Name: "f", Size: length}, several("x", api.Char, 0, length), end(api.EndField, "f"), end(api.EndMessage, "M"))}
	}
	wantForm(t, "65535 elements", long(65535))
	wantFault(t, "65536 elements", long(65536), 1)
}

// P12.2, point 10.
func TestChoices(t *testing.T) {
	value := func(w uint64) func(x *api.Token) { return func(x *api.Token) { x.Value = w } }
	name := func(name string) func(x *api.Token) { return func(x *api.Token) { x.Name = name } }
	tryAll(t, []spoil{
		{"M.c.C.side.B", "Value 65", value(65), false}, {"M.c.C.side.B", "Value 0", value(0), true}, {"M.c.C.side.B", "Value 255", value(255), true}, {"M.c.C.side.B", "Value 256", value(256), false}, {"M.c.C.side.B", "the greatest Value", value(math.MaxUint64), false},
		{"M.c.C.side.B", "as A", name("A"), false}, {"M.c.C.side.B", "as side", name("side"), true}, {"M.c.C.side.B", "as char", name("char"), true},
		{"M.k.E.K", "Value -128", value(minus(128)), true}, {"M.k.E.K", "Value -129", value(minus(129)), false}, {"M.k.E.K", "Value 127", value(127), true}, {"M.k.E.K", "Value 128", value(128), false},
		{"M.c.C.in.flags.y", "Value 0", value(0), false}, {"M.c.C.in.flags.y", "Value 16", value(16), false}, {"M.c.C.in.flags.y", "Value 1", value(1), true}, {"M.c.C.in.flags.y", "the greatest Value", value(math.MaxUint64), false}, {"M.c.C.in.flags.y", "as x", name("x"), false},
		{"M.c.C.in.flags.x", "as A", name("A"), true}, {"M.c.C.in.flags.x", "Value 15", value(14), true},
		{"M.n.N.K", "Value -32769", value(minus(32769)), false}, {"M.n.N.K", "Value 32767", value(32767), true},
	})
	// The bits of a set that takes no bytes are those of its type all the same.
	f := api.Form{Head: wide().Head, Tokens: paired(api.Token{Op: api.BeginMessage, Name: "M"}, api.Token{Op: api.BeginField, Name: "f"},
		api.Token{Op: api.BeginSet, Name: "S", Presence: api.Constant}, fixed("x", api.Uint32, 0, 3), api.Token{Op: api.Choice, Name: "a", Value: 31}, end(api.EndSet, "S"), end(api.EndField, "f"), end(api.EndMessage, "M"))}
	wantForm(t, "the bit 31 of a constant set", f)
	f.Tokens[4].Value = 32
	wantFault(t, "the bit 32 of a constant set", f, 4)
}

// P12.2, point 2: at each place every Op that may stand there, and none else.
func TestOps(t *testing.T) {
	f := wide()
	for i, x := range f.Tokens {
		for op := api.TokenOp(-2); op < 19; op++ {
			if op == x.Op {
				continue
			}
			g := tidy(f)
			g.Tokens[i] = api.Token{Op: op, Name: x.Name, Pair: x.Pair}
			e, at := ir.Check(g)
			if f, want := secondCheck(g); e != f || at != want || e != api.ErrTokens {
				t.Errorf("Op %d at %d: error %d, %d; want %d, %d", op, i, e, at, f, want)
			}
		}
	}
}

// P12.2, point 2: parts, types and Choices put in where they may stand, and where they may not.
func TestOrder(t *testing.T) {
	field := func(name string, id int) []api.Token {
		return []api.Token{{Op: api.BeginField, Name: name, ID: id, Since: 4, Presence: api.Optional}, {Op: api.BeginComposite, Name: "C"}, end(api.EndComposite, "C"), end(api.EndField, name)}
	}
	group := func(since int) []api.Token {
		return []api.Token{{Op: api.BeginGroup, Name: "new", ID: 300, Since: since, Size: 2, A: spot(api.Uint8, 0), B: spot(api.Uint8, 1)}, end(api.EndGroup, "new")}
	}
	data := func(since int) []api.Token {
		return []api.Token{{Op: api.BeginData, Name: "new", ID: 300, Since: since, Size: 1, A: spot(api.Uint8, 0)}, end(api.EndData, "new")}
	}
	one := []api.Token{fixed("new", api.Uint8, 20, 1)}
	choice := []api.Token{{Op: api.Choice, Name: "new", Value: 14}}
	for _, x := range []struct {
		what  string
		ahead string // of what
		put   []api.Token
		ok    bool
	}{
		{"a field ahead of a group", "M.g", field("new", 300), true}, {"a field behind a group", "M.g2", field("new", 300), false}, {"a field behind data", "M.d2", field("new", 300), false}, {"a field at the end", "M.$M", field("new", 300), false},
		{"a field in a group ahead of a group", "M.g.h", field("new", 300), true}, {"a field in a group behind a group", "M.g.d", field("new", 300), false}, {"a field in a group ahead of data", "M.g.h.d", field("new", 300), true}, {"a field in a group behind data", "M.g.$g", field("new", 300), false},
		{"a field behind fields of a group", "M.g2.$g2", field("new", 300), true}, {"a field in a field", "M.a.uint32", field("new", 300), false}, {"a field in data", "M.d.$d", field("new", 300), false}, {"a field in a composite", "M.c.C.m", field("new", 300), false}, {"a field ahead of all", "M", field("new", 300), false},
		{"a group ahead of a field", "M.n", group(1), false}, {"a group ahead of a group", "M.g2", group(1), true}, {"a group ahead of data", "M.d", group(2), true}, {"a group behind data", "M.d2", group(2), false}, {"a group at the end", "M.$M", group(4), false},
		{"a group in data", "M.d.$d", group(2), false}, {"a group in a group", "M.g.h.d", group(1), true}, {"a group in a group behind data", "M.g.h.$h", group(1), false}, {"a group in a field", "M.a.uint32", group(1), false},
		{"data ahead of a field", "M.a", data(1), false}, {"data ahead of a group", "M.g2", data(1), false}, {"data ahead of data", "M.d", data(2), true}, {"data at the end", "M.$M", data(4), true}, {"data in data", "M.d.$d", data(2), false}, {"data in a group", "M.g2.$g2", data(2), true}, {"data in a composite", "M.c.C.$C", data(4), false},
		{"a type in a composite", "M.c.C.m", one, true}, {"a type at a composite's end", "M.c.C.$C", one, true}, {"a second type of a field", "M.a.$a", one, false}, {"a first type of a field", "M.a.uint32", one, false},
		{"a type in a message", "M.a", one, false}, {"a type in a group", "M.g2.$g2", one, false}, {"a second Encoding", "M.c.C.side.A", one, false}, {"an Encoding at an enum's end", "M.c.C.side.$side", one, false}, {"an Encoding ahead of a set's", "M.s.S.uint64", one, false}, {"an Encoding in data", "M.d.$d", one, false},
		{"a Choice ahead of the Encoding", "M.c.C.side.char", choice, false}, {"a Choice right behind it", "M.c.C.side.A", choice, true}, {"a Choice at the end", "M.c.C.side.$side", choice, true}, {"a Choice in a set without", "M.s.S.$S", choice, true}, {"a Choice in a composite", "M.c.C.m", choice, false}, {"a Choice in a field", "M.a.$a", choice, false}, {"a Choice in a message", "M.g", choice, false},
		{"a message ahead", "M", []api.Token{{Op: api.BeginMessage, Name: "X"}, end(api.EndMessage, "X")}, false}, {"a message inside", "M.g", []api.Token{{Op: api.BeginMessage, Name: "X"}, end(api.EndMessage, "X")}, false}, {"an end inside", "M.g", []api.Token{end(api.EndMessage, "M")}, false},
	} {
		f := wide()
		i := place(t, f, x.ahead)
		f.Tokens = paired(slices.Insert(slices.Clone(f.Tokens), i, x.put...)...)
		if x.ok {
			wantForm(t, x.what, f)
			continue
		}
		e, at := ir.Check(f)
		if g, want := secondCheck(f); e != api.ErrTokens || g != e || at != want || at > i+len(x.put) {
			t.Errorf("%s: error %d, %d; want %d, at most %d", x.what, e, at, want, i+len(x.put))
		}
	}
}

// P12.2, point 2: what is missing, doubled, in another order, and behind the end; with the pairs of the rest set anew, and as they were.
func TestTokensMoved(t *testing.T) {
	f := wide()
	n := len(f.Tokens)
	hold := func(what string, tokens []api.Token) {
		t.Helper()
		for _, g := range [][]api.Token{tokens, paired(tokens...)} {
			g := api.Form{Order: f.Order, Schema: f.Schema, Version: f.Version, Head: f.Head, Tokens: g}
			e, at := ir.Check(g)
			if s, want := secondCheck(g); e != s || at != want {
				t.Errorf("%s: error %d, %d; want %d, %d", what, e, at, s, want)
			}
		}
	}
	for i := range n {
		hold(fmt.Sprint("without ", i), slices.Delete(slices.Clone(f.Tokens), i, i+1))
		hold(fmt.Sprint("up to ", i), slices.Clone(f.Tokens[:i]))
		hold(fmt.Sprint("from ", i), slices.Clone(f.Tokens[i:]))
		for k := range n {
			hold(fmt.Sprintf("%d again at %d", i, k), slices.Insert(slices.Clone(f.Tokens), k, f.Tokens[i]))
			swapped := slices.Clone(f.Tokens)
			swapped[i], swapped[k] = swapped[k], swapped[i]
			hold(fmt.Sprintf("%d for %d", i, k), swapped)
		}
	}
	for op := api.TokenOp(-1); op < 17; op++ {
		g := tidy(f)
		g.Tokens = append(g.Tokens, api.Token{Op: op, Name: "M", Pair: n})
		wantFault(t, fmt.Sprint("behind the end: Op ", op), g, n)
		g.Tokens[n].Pair = 0
		wantFault(t, fmt.Sprint("behind the end: Op ", op, ", pair 0"), g, n)
	}
	g := tidy(f)
	g.Tokens = paired(append(g.Tokens, g.Tokens...)...)
	wantFault(t, "twice", g, n)
	for op := api.TokenOp(-1); op < 17; op++ {
		if op != api.BeginMessage {
			wantFault(t, fmt.Sprint("nothing but the Op ", op), api.Form{Head: f.Head, Tokens: []api.Token{{Op: op, Name: "M"}}}, 0)
		}
	}
}

// P12.2: the first of several is told.
func TestFirstOfSeveral(t *testing.T) {
	f := wide()
	for i := len(f.Tokens) - 1; i >= 0; i-- {
		f.Tokens[i].Value += 1 << 40
		f.Tokens[i].Block--
		wantFault(t, fmt.Sprint("all from ", i), f, i)
	}
	f.Head.Size = 0
	wantFault(t, "the head too", f, -1)
}

// nested is a message with so many groups in one another, and a field with so many composites in one another.
func nested(groups, composites int) api.Form {
	ts := []api.Token{{Op: api.BeginMessage, Name: "M"}, {Op: api.BeginField, Name: "f"}}
	for range composites {
		ts = append(ts, api.Token{Op: api.BeginComposite, Name: "C"})
	}
	for range composites {
		ts = append(ts, end(api.EndComposite, "C"))
	}
	ts = append(ts, end(api.EndField, "f"))
	for i := range groups {
		ts = append(ts, api.Token{Op: api.BeginGroup, Name: "g", ID: 1 + i, Size: 2, A: spot(api.Uint8, 0), B: spot(api.Uint8, 1)})
	}
	for range groups {
		ts = append(ts, end(api.EndGroup, "g"))
	}
	return api.Form{Head: wide().Head, Tokens: paired(append(ts, end(api.EndMessage, "M"))...)}
}

// P12.2, point 2: groups and composites in one another.
func TestNest(t *testing.T) {
	wantForm(t, "8 groups, 16 composites", nested(8, 16))
	wantForm(t, "1 group, 1 composite", nested(1, 1))
	wantFault(t, "9 groups", nested(9, 16), 1+1+32+1+8)
	wantFault(t, "12 groups", nested(12, 1), 1+1+2+1+8)
	wantFault(t, "17 composites", nested(1, 17), 1+1+16)
	wantFault(t, "40 composites", nested(9, 40), 1+1+16)
	// Side by side they are as many as one likes.
	f := nested(8, 1)
	tokens := slices.Clone(f.Tokens[:len(f.Tokens)-1])
	group := slices.Clone(tokens[5:])
	for i := range group {
		if group[i].Op == api.BeginGroup {
			group[i].ID += 100
		}
	}
	group[0].Name, group[len(group)-1].Name = "h", "h"
	f.Tokens = paired(append(append(tokens, group...), end(api.EndMessage, "M"))...)
	wantForm(t, "8 groups twice", f)
	g := nested(0, 16)
	tokens = slices.Clone(g.Tokens[:2])
	tokens = append(tokens, api.Token{Op: api.BeginComposite, Name: "D"})
	deep := g.Tokens[3 : len(g.Tokens)-3]
	tokens = append(append(tokens, deep...), deep...)
	g.Tokens = paired(append(tokens, end(api.EndComposite, "D"), end(api.EndField, "f"), end(api.EndMessage, "M"))...)
	wantForm(t, "15 composites twice in one", g)
}
