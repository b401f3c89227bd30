package codec_test

import (
	"fmt"
	"math"
	"slices"
	"strings"
	"testing"

	"stencil/api"
	"stencil/codec"
	"stencil/ir"
)

// wantTokens asks all calls of a value that is no form: whatever else is wrong, that is told.
func wantTokens(t *testing.T, what string, f api.Form) {
	t.Helper()
	if e, _ := ir.Check(f); e != api.ErrTokens {
		t.Fatalf("%s: still a form: %v", what, e)
	}
	for _, m := range [][]api.Val{nil, {}, tree(newerTree), tree("M"), {{Kind: -1}}} {
		refuseEncode(t, what, f, m, api.ErrTokens)
		if n, e := codec.Encode(f, m, nil, 5); n != 0 || e != api.ErrTokens {
			t.Errorf("P20.1: %s: Encode = %d, %v", what, n, e)
		}
	}
	for _, reader := range []int{math.MinInt, -1, 0, 1, 2, 3, math.MaxInt} {
		for _, b := range [][]byte{nil, []byte(sample), []byte(newer), []byte(sample[:3])} {
			for _, at := range []int{-1, 0, 1, len(b), len(b) + 1} {
				m, n, e := codec.Decode(f, reader, b, at)
				if len(m) != 0 || n != 0 || e != api.ErrTokens {
					t.Errorf("P20.3: %s: Decode for %d at %d = %d nodes, %d, %v", what, reader, at, len(m), n, e)
				}
				if n, e := codec.Length(f, b, at); n != 0 || e != api.ErrTokens {
					t.Errorf("P20.4: %s: Length at %d = %d, %v", what, at, n, e)
				}
			}
			if s, e := codec.Turn(f, string(b), reader); s != "" || e != api.ErrTokens {
				t.Errorf("P20.5: %s: Turn to %d = %q, %v", what, reader, s, e)
			}
		}
	}
}

// P20.1 to P20.5: each of ir.Check's points, of a form's head and of its tokens.
func TestNoForm(t *testing.T) {
	f := made(t, chapter)
	n := len(f.Tokens)
	set := func(name string, do func(x *api.Token)) func(f *api.Form) {
		return func(f *api.Form) { do(&f.Tokens[placeOf(*f, name)]) }
	}
	for what, spoil := range map[string]func(f *api.Form){
		"an order":                   func(f *api.Form) { f.Order = 2 },
		"an order below 0":           func(f *api.Form) { f.Order = -1 },
		"a schema":                   func(f *api.Form) { f.Schema = 65536 },
		"a version":                  func(f *api.Form) { f.Version = -1 },
		"the greatest version":       func(f *api.Form) { f.Version = math.MaxInt },
		"no head":                    func(f *api.Form) { f.Head = api.Head{} },
		"a head's spot":              func(f *api.Form) { f.Head.Version.Offset = 7 },
		"no tokens":                  func(f *api.Form) { f.Tokens = nil },
		"an empty list":              func(f *api.Form) { f.Tokens = f.Tokens[:0] },
		"without the last":           func(f *api.Form) { f.Tokens = f.Tokens[:n-1] },
		"begins alone":               func(f *api.Form) { f.Tokens = slices.Repeat(f.Tokens[:1], 5) },
		"ends alone":                 func(f *api.Form) { f.Tokens = slices.Repeat(f.Tokens[n-1:], 5) },
		"an Op that is none":         set("a", func(x *api.Token) { x.Op = -2 }),
		"an Op beyond":               set("a", func(x *api.Token) { x.Op = 16 }),
		"another name at the end":    func(f *api.Form) { f.Tokens[3].Name = "b" },
		"no symbol":                  func(f *api.Form) { f.Tokens[2].Name = "a b" },
		"the greatest Pair":          func(f *api.Form) { f.Tokens[0].Pair = math.MaxInt },
		"the least Pair":             func(f *api.Form) { f.Tokens[0].Pair = math.MinInt },
		"a Pair that is its own":     set("g", func(x *api.Token) { x.Pair = placeOf(f, "g") }),
		"a Pair ahead":               set("g", func(x *api.Token) { x.Pair = 0 }),
		"an ID twice":                set("g", func(x *api.Token) { x.ID = 1 }),
		"a Since that falls":         set("n", func(x *api.Token) { x.Since = -1 }),
		"a Since beyond":             set("n", func(x *api.Token) { x.Since = 3 }),
		"a Block beyond Full":        func(f *api.Form) { f.Tokens[0].Block++ },
		"a Block too short":          func(f *api.Form) { f.Tokens[0].Block-- },
		"a group's B that is none":   set("g", func(x *api.Token) { x.B.Prim = -1 }),
		"a length that is none":      set("d", func(x *api.Token) { x.A.Prim = api.Uint64 }),
		"a Presence":                 set("a", func(x *api.Token) { x.Presence = 3 }),
		"a later field required":     set("c", func(x *api.Token) { x.Presence = api.Required }),
		"an Offset":                  func(f *api.Form) { f.Tokens[2].Offset = 1 },
		"a field over another":       set("b", func(x *api.Token) { x.Offset = 0 }),
		"a Length":                   func(f *api.Form) { f.Tokens[2].Length = 0 },
		"a Length beyond":            func(f *api.Form) { f.Tokens[2].Length = math.MaxInt },
		"a Null":                     func(f *api.Form) { f.Tokens[2].Null = 256 },
		"a version above the head's": func(f *api.Form) { f.Head.Version.Prim, f.Version = api.Uint8, 255 },
	} {
		g := f
		g.Tokens = slices.Clone(f.Tokens)
		spoil(&g)
		wantTokens(t, what, g)
	}
	wantTokens(t, "nothing", api.Form{})
	for i := range f.Tokens {
		g := f
		g.Tokens = slices.Delete(slices.Clone(f.Tokens), i, i+1)
		wantTokens(t, fmt.Sprint("without ", i), g)
	}
}

// P20.7: the work is about linear in the bytes, the tree and the form: of many fields, constants, entries and groups each call ends soon.
func TestManyOfAll(t *testing.T) {
	var form, said strings.Builder
	said.WriteString("M")
	for i := range 20000 {
		fmt.Fprintf(&form, "f%d:uint8 ", i)
		fmt.Fprintf(&said, " f%d=%d", i, i%200)
	}
	// Constants in an entry are no work for each of the entries.
	form.WriteString("g{32 x:uint8 ")
	for i := range 20000 {
		fmt.Fprintf(&form, "k%d! ", i)
	}
	form.WriteString("h{8 } } d$8")
	const n = 60000
	said.WriteString(" g{" + strings.Repeat(" - x=7 h{ }", n) + " } d$d")
	f, m := made(t, form.String()), tree(said.String())
	s, e := codec.Bytes(f, m)
	if want := 8 + 20000 + 6 + n*4 + 2; e != ok || len(s) != want {
		t.Fatalf("P20.2: Bytes: %d bytes, %v; want %d", len(s), e, want)
	}
	got, size, e := codec.Decode(f, 0, []byte(s), 0)
	if e != ok || size != len(s) || !sameNodes(got, m) {
		t.Errorf("P20.3: Decode: %d nodes, %d bytes, %v", len(got), size, e)
	}
	if size, e := codec.Length(f, []byte(s), 0); e != ok || size != len(s) {
		t.Errorf("P20.4: Length = %d, %v", size, e)
	}
	if turned, e := codec.Turn(f, s, 2); e != ok || turned != s {
		t.Errorf("P20.5: Turn: %d bytes, %v", len(turned), e)
	}
}

// P20.7: many groups and data in the row of a message.
func TestManyMembers(t *testing.T) {
	var form, said strings.Builder
	said.WriteString("M")
	for i := range 15000 {
		fmt.Fprintf(&form, "g%d{8 x:uint8 } ", i)
		fmt.Fprintf(&said, " g%d{ - x=%d - x=1 }", i, i%200)
	}
	for i := range 15000 {
		fmt.Fprintf(&form, "d%d$8 ", i)
		fmt.Fprintf(&said, " d%d$%d", i, i)
	}
	f, m := made(t, form.String()), tree(said.String())
	s, e := codec.Bytes(f, m)
	if e != ok {
		t.Fatalf("P20.2: Bytes: %v", e)
	}
	for reader := range 3 {
		if got, size, e := codec.Decode(f, reader, []byte(s), 0); e != ok || size != len(s) || !sameNodes(got, m) {
			t.Errorf("P20.3: Decode: %d nodes, %d bytes, %v", len(got), size, e)
		}
	}
}
