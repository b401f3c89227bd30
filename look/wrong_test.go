package look_test

import (
	"fmt"
	"math"
	"slices"
	"strings"
	"testing"

	"stencil/api"
	"stencil/ir"
	"stencil/look"
)

// wantTokens asks all calls of a value that is no form: whatever else is wrong, that is told.
func wantTokens(t *testing.T, what string, f api.Form) {
	t.Helper()
	if e, _ := ir.Check(f); e != api.ErrTokens {
		t.Fatalf("%s: still a form: %v", what, e)
	}
	paths := [][]api.Step{nil, {}, steps("a"), steps("c"), steps("g"), steps("g[0].x"), steps("g[9].x"), steps("d"), steps("n"), steps("z"), steps("a[0]"), {{}}}
	for _, b := range [][]byte{nil, []byte(sample), []byte(newer), []byte(sample[:3]), noise(18, 1)} {
		for _, at := range []int{math.MinInt, -1, 0, 1, len(b), len(b) + 1, math.MaxInt} {
			for _, path := range paths {
				for _, words := range [][]uint64{nil, {1}, {1 << 40}, {1, 2}} {
					refuse(t, what, f, b, at, path, words, api.ErrTokens)
				}
			}
		}
	}
}

// P21.1 to P21.3: each of ir.Check's points, of a form's head and of its tokens.
func TestNoForm(t *testing.T) {
	f := made(t, chapter)
	n := len(f.Tokens)
	set := func(name string, do func(x *api.Token)) func(f *api.Form) {
		return func(f *api.Form) { do(&f.Tokens[placeOf(*f, name)]) }
	}
	for what, spoil := range map[string]func(f *api.Form){
		"an order":                   func(f *api.Form) { f.Order = 2 },
		"an order below 0":           func(f *api.Form) { f.Order = -1 },
		"a schema":                   func(f *api.Form) { f.Schema = 65536 },
		"a version":                  func(f *api.Form) { f.Version = -1 },
		"a version below a part's":   func(f *api.Form) { f.Version = 1 },
		"the greatest version":       func(f *api.Form) { f.Version = math.MaxInt },
		"no head":                    func(f *api.Form) { f.Head = api.Head{} },
		"a head's spot":              func(f *api.Form) { f.Head.Version.Offset = 7 },
		"no tokens":                  func(f *api.Form) { f.Tokens = nil },
		"an empty list":              func(f *api.Form) { f.Tokens = f.Tokens[:0] },
		"without the last":           func(f *api.Form) { f.Tokens = f.Tokens[:n-1] },
		"begins alone":               func(f *api.Form) { f.Tokens = slices.Repeat(f.Tokens[:1], 5) },
		"ends alone":                 func(f *api.Form) { f.Tokens = slices.Repeat(f.Tokens[n-1:], 5) },
		"an Op that is none":         set("a", func(x *api.Token) { x.Op = -2 }),
		"an Op beyond":               set("a", func(x *api.Token) { x.Op = 16 }),
		"another name at the end":    func(f *api.Form) { f.Tokens[3].Name = "b" },
		"no symbol":                  func(f *api.Form) { f.Tokens[2].Name = "a b" },
		"the greatest Pair":          func(f *api.Form) { f.Tokens[0].Pair = math.MaxInt },
		"the least Pair":             func(f *api.Form) { f.Tokens[0].Pair = math.MinInt },
		"a Pair that is its own":     set("g", func(x *api.Token) { x.Pair = placeOf(f, "g") }),
		"a Pair ahead":               set("g", func(x *api.Token) { x.Pair = 0 }),
		"an ID twice":                set("g", func(x *api.Token) { x.ID = 1 }),
		"a Since that falls":         set("n", func(x *api.Token) { x.Since = -1 }),
		"a Since beyond":             set("n", func(x *api.Token) { x.Since = 3 }),
		"a Block beyond Full":        func(f *api.Form) { f.Tokens[0].Block++ },
		"a Block too short":          func(f *api.Form) { f.Tokens[0].Block-- },
		"a group's B that is none":   set("g", func(x *api.Token) { x.B.Prim = -1 }),
		"a length that is none":      set("d", func(x *api.Token) { x.A.Prim = api.Uint64 }),
		"a Presence":                 set("a", func(x *api.Token) { x.Presence = 3 }),
		"a later field required":     set("c", func(x *api.Token) { x.Presence = api.Required }),
		"an Offset":                  func(f *api.Form) { f.Tokens[2].Offset = 1 },
		"a field over another":       set("b", func(x *api.Token) { x.Offset = 0 }),
		"a Length":                   func(f *api.Form) { f.Tokens[2].Length = 0 },
		"a Length beyond":            func(f *api.Form) { f.Tokens[2].Length = math.MaxInt },
		"a Null":                     func(f *api.Form) { f.Tokens[2].Null = 256 },
		"a version above the head's": func(f *api.Form) { f.Head.Version.Prim, f.Version = api.Uint8, 255 },
	} {
		g := f
		g.Tokens = slices.Clone(f.Tokens)
		spoil(&g)
		wantTokens(t, what, g)
	}
	wantTokens(t, "nothing", api.Form{})
	for i := range f.Tokens {
		g := f
		g.Tokens = slices.Delete(slices.Clone(f.Tokens), i, i+1)
		wantTokens(t, fmt.Sprint("without ", i), g)
	}
}

// noPaths are paths that aren't one of a form with the fields a and k (a constant), the group g with x, the group h in it with y, the data e, and the data d.
var noPaths = []string{
	// Names that no part has, or that one nearly has.
	"", "z", "A", "a ", " a", "aa", "M", "C", "coding", "uint8", "g[0].z", "g[0].", "g[0].h[0].z", "z[0].x", "g[0].z[0].y", "a.", ".a",
	// Names of parts that stand elsewhere.
	"x", "y", "e", "h", "h[0].y", "g[0].a", "g[0].d", "g[0].g", "g[0].g[0].x", "g[0].y", "g[0].h[0].x", "g[0].h[0].e", "g[0].h[0].a", "g[0].h[0].h",
	// An Entry at the last step.
	"a[0]", "g[0]", "d[0]", "d[1]", "a[-2]", "g[-2]", "d[-2]", "g[0].x[0]", "g[0].h[0]", "g[0].e[0]", "g[0].h[0].y[0]", "g[0].x[-2]", "a[9223372036854775807]", "g[-9223372036854775808]",
	// None ahead of the last.
	"g.x", "g.h", "g.h[0].y", "g[0].h.y", "g[-2].x", "g[-9223372036854775808].x", "g[0].h[-2].y", "g[0].h[-5].y",
	// Steps into a field, or into data, or too many of them.
	"a.x", "a[0].x", "a.a", "a[0].a", "a[0].g", "d.x", "d[0].x", "d[0].d", "g[0].x[0].y", "g[0].e[0].y", "g[0].h[0].y[0].y", "g[0].x.x", "g[0].h[0].y.a",
	// Fields that aren't called, and what is in them.
	"k", "k[0]", "k.k", "l", "l[0]", "m", "m.C", "g[0].k", "g[0].h[0].l", "g[0].l",
}

const noPathsForm = "a:uint8 k! l:(=char*2,=int16) m:(.,.) g{8 x:uint8 k! l:() h{8 y:uint8 l:=uint8 } e$8 } d$8"

const noPathsTree = "M a=1 g{ - x=2 h{ - y=3 - y=4 } e$ee - x=5 h{ - y=6 } e$ } d$dd"

// P21.1 to P21.3: paths that aren't one of the form, whatever the bytes.
func TestNoPath(t *testing.T) {
	f := made(t, noPathsForm)
	p := planOf(f)
	b := written(t, f, 2, tree(noPathsTree))
	wrong := [][]api.Step{nil, {}}
	for _, said := range noPaths {
		wrong = append(wrong, steps(said))
	}
	g := api.Step{Name: "g"}
	for _, n := range []int{2, 3, 9, 10, 17, 1000, 100000} {
		wrong = append(wrong, slices.Repeat([]api.Step{g}, n), append(slices.Repeat([]api.Step{g}, n), steps("x")...), slices.Repeat([]api.Step{{Name: "a", Entry: -1}}, n))
	}
	wrong = append(wrong, steps(strings.Repeat("x", 100000)))
	for _, path := range wrong {
		if p.placeOf(path) >= 0 {
			t.Fatalf("%.99q is a path of the form", say(path))
		}
		for _, bytes := range [][]byte{b, b[:9], b[:3], nil, noise(40, 3)} {
			for _, at := range []int{-1, 0, 1, len(bytes), len(bytes) + 1} {
				refuse(t, "no path", f, bytes, at, path, []uint64{1}, api.ErrPath)
			}
		}
	}
	// Each kind of thing is found beside them.
	got := newScene(t, p, b, 0).every(3)
	if got[ok] != 12 || got[api.ErrPath] != 9 || len(got) != 2 {
		t.Errorf("P21.1: all paths: %v", got)
	}
}

// P21.1 to P21.3: a field that takes bytes none of which is a leaf's isn't called; one with a leaf among constants is.
func TestCalled(t *testing.T) {
	f := made(t, "k! a:(=char*2,.,=int16) b:(.,=char,uint8,.) c:=double d:((),(.,(=int8))) e:((),(.,(=int8,[uint16~9])))")
	b := slices.Concat([]byte{10, 0, 3, 0, 7, 0, 0, 0}, []byte{200, 201, 7, 202, 203, 204, 8, 9, 205, 206})
	c := sceneOf(t, f, b, 0)
	c.wants(api.ErrPath, "k", "a", "c", "d")
	c.wants(ok, "b", "e")
	if got, e := look.Get(f, b, 0, steps("b")); e != ok || !sameTold(got, api.Told{Words: []uint64{7}}) {
		t.Errorf("P21.1: Get of b = %v, %v", got, e)
	}
	if got, e := look.Get(f, b, 0, steps("e")); e != ok || !sameTold(got, api.Told{Words: []uint64{0x0908}}) {
		t.Errorf("P21.1: Get of e = %v, %v", got, e)
	}
	// The whole field, not its leaf alone.
	if got, e := look.Where(f, b, 0, steps("b")); e != ok || got.From != 9 || got.To != 12 {
		t.Errorf("P21.2: Where of b = %v, %v", got, e)
	}
}

// P21.1 to P21.3: which error comes first, where several hold.
func TestFirstError(t *testing.T) {
	f := made(t, "a:uint8 c@1:uint16 g{8 x:uint8 y@2:uint8 } d$8 n@2$8")
	b := written(t, f, 0, tree("M a=9 g{ - x=4 } d$hi"))
	is := func(what string, f api.Form, b []byte, at int, said string, words []uint64, get, where, set api.Errno) {
		t.Helper()
		was := slices.Clone(b)
		if _, e := look.Get(f, b, at, steps(said)); e != get {
			t.Errorf("P21.1: %s: Get of %q = %v; want %v", what, said, e, get)
		}
		if _, e := look.Where(f, b, at, steps(said)); e != where {
			t.Errorf("P21.2: %s: Where of %q = %v; want %v", what, said, e, where)
		}
		if e := look.Set(f, b, at, steps(said), words); e != set {
			t.Errorf("P21.3: %s: Set of %q = %v; want %v", what, said, e, set)
		}
		copy(b, was)
	}
	wrong := []uint64{1 << 40, 1}
	spoilt := changed(f, 0, func(t *api.Token) { t.Block = -1 })
	is("no form, no path, no place", spoilt, b, -1, "z", wrong, api.ErrTokens, api.ErrTokens, api.ErrTokens)
	is("no path, no place", f, b, -1, "z", wrong, api.ErrPath, api.ErrPath, api.ErrPath)
	is("no path, no header", f, b[:3], 0, "z", wrong, api.ErrPath, api.ErrPath, api.ErrPath)
	// Whether Set has a field is asked ahead of the way; whether it lives, behind it.
	is("no field, no place", f, b, -1, "g", wrong, api.ErrBuffer, api.ErrBuffer, api.ErrPath)
	is("no field, no bytes", f, b[:3], 0, "d", wrong, api.ErrShort, api.ErrShort, api.ErrPath)
	is("a field, no place", f, b, 99, "a", wrong, api.ErrBuffer, api.ErrBuffer, api.ErrBuffer)
	is("a field that isn't there, no place", f, b, 99, "c", wrong, api.ErrBuffer, api.ErrBuffer, api.ErrBuffer)
	is("a field that isn't there, another schema", f, with(b, 4, 8), 0, "c", wrong, api.ErrSchemaID, api.ErrSchemaID, api.ErrSchemaID)
	is("another schema and message", f, with(b, 2, 9, 0, 9), 0, "a", wrong, api.ErrSchemaID, api.ErrSchemaID, api.ErrSchemaID)
	is("another message and version", f, with(b, 2, 9, 0, 7, 0, 9), 0, "a", wrong, api.ErrTemplate, api.ErrTemplate, api.ErrTemplate)
	is("another version and a short block", f, with(b, 0, 0, 0, 3, 0, 7, 0, 9), 0, "a", wrong, api.ErrActing, api.ErrActing, api.ErrActing)
	is("a short block", f, with(b, 0, 0), 0, "a", wrong, api.ErrBlock, api.ErrBlock, api.ErrBlock)
	// What isn't in the bytes: Get tells null.
	is("a field that isn't there", f, b, 0, "c", wrong, ok, api.ErrPath, api.ErrPath)
	is("one in an entry", f, b, 0, "g[0].y", wrong, ok, api.ErrPath, api.ErrPath)
	is("one in no entry", f, b, 0, "g[1].y", wrong, api.ErrPath, api.ErrPath, api.ErrPath)
	is("data that isn't there", f, b, 0, "n", wrong, ok, api.ErrPath, api.ErrPath)
	// Data that isn't there, behind data that is cut.
	is("data cut ahead", f, b[:len(b)-1], 0, "n", wrong, api.ErrShort, api.ErrShort, api.ErrPath)
	is("no entry, and data cut behind", f, b[:len(b)-1], 0, "g[1].x", wrong, api.ErrPath, api.ErrPath, api.ErrPath)
	// The words come last, and how many ahead of what they are.
	is("too many words, of which none fits", f, b, 0, "a", wrong, ok, ok, api.ErrWords)
	is("a word that doesn't fit", f, b, 0, "a", wrong[:1], ok, ok, api.ErrFit)
	is("too many words of x", f, b, 0, "g[0].x", wrong, ok, ok, api.ErrWords)
	is("the group's entry isn't whole", f, b[:12], 0, "g[0].x", wrong, api.ErrShort, api.ErrShort, api.ErrShort)
	is("the entry isn't whole, and there is none of that number", f, b[:12], 0, "g[1].x", wrong, api.ErrPath, api.ErrPath, api.ErrPath)
	is("nor is the dimension", f, b[:11], 0, "g[1].x", wrong, api.ErrShort, api.ErrShort, api.ErrShort)
}
