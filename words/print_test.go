package words_test

import (
	"fmt"
	"math"
	"strings"
	"testing"

	"stencil/api"
	"stencil/number"
	"stencil/prim"
	"stencil/text"
	"stencil/words"
)

// P23.1, P23.3: forms with parts of every kind, by a tree and its text.
func TestTexts(t *testing.T) {
	for _, c := range []struct{ form, tree, text string }{
		// Parts, or none.
		{"", "M", "{}"},
		{"k! l!", "M", "{}"},
		{"a:uint8", "M a=0", "{a:0}"},
		{"g{8 }", "M g{ }", "{g:[]}"},
		{"g{8 }", "M g{ - - - }", "{g:[{} {} {}]}"},
		{"g{8 k! }", "M g{ - - }", "{g:[{} {}]}"},
		{"g{8 x:int8 }", "M g{ - x=-1 - x=-128 }", "{g:[{x:-1} {x:null}]}"},
		{"d$8", "M d$", `{d:""}`},
		{"d$8 e$16 f$32", "M d$one e$ f$two", `{d:"one" e:"" f:"two"}`},
		{"g{8 h{8 i{8 } } } j{8 }", "M g{ - h{ - i{ - - } - i{ } } - h{ } } j{ - }", "{g:[{h:[{i:[{} {}]} {i:[]}]} {h:[]}] j:[{}]}"},
		{"g{8 a:uint8 g{8 a:uint8 d$8 } d$8 } d$8", "M g{ - a=1 g{ - a=2 d$x - a=3 d$y } d$z - a=4 g{ } d$ } d$w", `{g:[{a:1 g:[{a:2 d:"x"} {a:3 d:"y"}] d:"z"} {a:4 g:[] d:""}] d:"w"}`},
		{"a{8 a{8 a{8 a{8 a{8 a{8 a{8 a{8 x:uint8 } } } } } } } }", "M a{ - a{ - a{ - a{ - a{ - a{ - a{ - a{ - x=1 } } } } } } } }", "{a:[{a:[{a:[{a:[{a:[{a:[{a:[{a:[{x:1}]}]}]}]}]}]}]}]}"},
		// Names that are words elsewhere.
		{"null:uint8 M:uint8 x0x1:uint8 NaN:float INF:double", "M null=1 M=2 x0x1=3 NaN=0 INF=0", "{null:1 M:2 x0x1:3 NaN:0 INF:0}"},
		{"null{8 null:uint8 } n$8", "M null{ - null=255 - null=0 } n$null", `{null:[{null:null} {null:0}] n:"null"}`},
		// Fields that have no leaf, among others.
		{"k! a:uint8 l:() b:uint8 m:(=char*2,.,(=int8),()) c:uint8 n:=float", "M a=1 b=2 c=3", "{a:1 b:2 c:3}"},
		{"e:(=uint8,<=uint8|A=1>) a:uint8", "M a=1", "{a:1}"},
		// Leaves of one element, of many, and several of them.
		{"a:uint8*3", "M a=1,2,3", "{a:1,2,3}"},
		{"a:(uint8,uint8*2,int8)", "M a=1,2,3,-4", "{a:1;2,3;-4}"},
		{"a:(((uint8)),.,(=char,uint8*2),uint8)", "M a=1,2,3,4", "{a:1;2,3;4}"},
		{"a:(char*2,char,uint8,char*3)", "M a=65,66,67,68,69,70,71", `{a:"AB";"C";68;"EFG"}`},
		// Null words: of all elements, or of some alone.
		{"a:uint8*3", "M a=255,255,255", "{a:null}"},
		{"a:uint8*3", "M a=255,255,0", "{a:255,255,0}"},
		{"a:(uint8,int8*2)", "M a=255,-128,-128", "{a:null}"},
		{"a:(uint8,int8*2)", "M a=255,-128,-127", "{a:255;-128,-127}"},
		{"a:(uint8,int8*2)", "M a=0,-128,-128", "{a:0;-128,-128}"},
		{"a:uint8~7 b?:uint8", "M a=7 b=255", "{a:null b:null}"},
		{"a:uint8~7", "M a=255", "{a:255}"},
		{"c:char*3", "M c=0,0,0", "{c:null}"},
		{"c:char*2~32", "M c=32,32", "{c:null}"},
		{"c:char*2~32", "M c=0,0", `{c:"\x00\x00"}`},
		// Characters.
		{"c:char", "M c=34", `{c:"\""}`},
		{"c:char*6", "M c=92,34,10,13,9,39", `{c:"\\\"\n\r\t'"}`},
		{"c:char*6", "M c=0,255,127,31,32,126", `{c:"\x00\xff\x7f\x1f ~"}`},
		{"c:char*4", "M c=195,169,110,0", `{c:"\xc3\xa9n\x00"}`},
		{"c:char*4", "M c=110,117,108,108", `{c:"null"}`},
		// Enums.
		{"k:<uint8|Buy=1|Sell=2>", "M k=1", "{k:Buy}"},
		{"k:<uint8|Buy=1|Sell=2>", "M k=3", "{k:3}"},
		{"k:<uint8|Buy=1|Sell=2>", "M k=255", "{k:null}"},
		{"k:<uint8|Sell=2|Buy=1>", "M k=2", "{k:Sell}"},
		{"k:<uint8>", "M k=2", "{k:2}"},
		{"k:<uint8|None=255>", "M k=255", "{k:null}"},
		{"k:<uint8~1|None=255>", "M k=255", "{k:None}"},
		{"k:<int8|Neg=-1|Least=-128>", "M k=-1", "{k:Neg}"},
		{"k:<int64|Neg=-1>", "M k=1", "{k:1}"},
		{"k:<uint64|All=0xFFFFFFFFFFFFFFFE>", "M k=0xFFFFFFFFFFFFFFFE", "{k:All}"},
		{"k:<char|A=65|x41=66>", "M k=65", "{k:A}"},
		{"k:<char|A=65|x41=66>", "M k=66", "{k:x41}"},
		{"k:<char|A=65|x41=66>", "M k=67", `{k:"C"}`},
		{"k:<char|A=65>", "M k=0", "{k:null}"},
		{"k:<char~65|A=65>", "M k=0", `{k:"\x00"}`},
		{"k:(<uint8|A=1>,<uint8|A=2|B=1>,uint8)", "M k=1,1,1", "{k:A;B;1}"},
		{"k:(<char|A=65|B=66>,char*2)", "M k=65,66,67", `{k:A;"BC"}`},
		{"k:<uint8|A=1> l:<uint8|A=2>", "M k=1 l=1", "{k:A l:1}"},
		// Choices that are called null are no names.
		{"k:<uint8|null=1|Buy=2>", "M k=1", "{k:1}"},
		{"k:<uint8|null=1|Buy=2>", "M k=2", "{k:Buy}"},
		{"k:<char|null=65>", "M k=65", `{k:"A"}`},
		{"k:<uint8~1|null=1|Null=2>", "M k=1", "{k:null}"},
		{"k:<uint8~1|null=1|Null=2>", "M k=2", "{k:Null}"},
		{"k:(uint8,<uint8|null=1>)", "M k=255,1", "{k:255;1}"},
		// Sets have no names in a text, and 0 is their null.
		{"s:[uint8|One=0|Two=1]", "M s=3", "{s:3}"},
		{"s:[uint8|One=0|Two=1]", "M s=0", "{s:null}"},
		{"s:[uint8~3|One=0]", "M s=3", "{s:3}"},
		{"s:[uint64|Top=63]", "M s=0xFFFFFFFFFFFFFFFF", "{s:18446744073709551615}"},
		{"s:([uint8|A=1],<uint8|A=1>)", "M s=1,1", "{s:1;A}"},
		{"s:([uint8|A=1],uint8)", "M s=0,255", "{s:null}"},
		{"s:([uint8|A=1],uint8)", "M s=0,0", "{s:0;0}"},
	} {
		is(t, made(t, c.form), tree(c.tree), c.text)
	}
	is(t, made(t, chapter), tree(chapterTree), chapterText)
	is(t, grown(t), tree(grownTree), grownText)
}

// P23.1, P23.3: the least, the greatest and the null word of every type, and some between.
func TestTypes(t *testing.T) {
	for i, name := range primNames[1:] {
		p := api.Prim(i + 1)
		f := made(t, "a:"+name+" b:"+name+"*2 c:(uint8,"+name+")")
		for _, w := range []uint64{prim.Null(p), prim.Min(p), prim.Max(p), 0, 1, 100, prim.Max(p) - 1, prim.Null(p) ^ 1} {
			s, e := number.Print(p, w)
			if e != ok {
				t.Fatalf("%s has no word %d", name, w)
			}
			m := tree("M a=0 b=0,0 c=5,0")
			m[1].Words[0], m[2].Words[1], m[3].Words[1] = w, w, w
			zero, _ := number.Print(p, 0)
			one := s
			if w == prim.Null(p) {
				one = "null"
			}
			is(t, f, m, fmt.Sprintf("{a:%s b:%s,%s c:5;%s}", one, zero, s, s))
		}
	}
}

// P23.1, P23.3: floats have their special values, and as many words beside null that are no numbers as there are.
func TestFloats(t *testing.T) {
	f := made(t, "a:float b:double c:float*5 d:double*2~0")
	is(t, f, tree("M a=0x7FC00001 b=0x7FF0000000000001 c=0x7F800000,0xFF800000,0x80000000,1,0x7FC00000 d=0x7FF8000000000000,0x8000000000000000"),
		"{a:0x7FC00001 b:0x7FF0000000000001 c:INF,-INF,-0,1e-45,NaN d:NaN,-0}")
	is(t, f, tree("M a=0x7FC00000 b=0x7FF8000000000000 c=0x7FC00000,0x7FC00000,0x7FC00000,0x7FC00000,0x7FC00000 d=0,0"), "{a:null b:null c:null d:null}")
	m := tree("M a=0 b=0 c=0,0,0,0,0 d=0,0")
	m[1].Words[0], m[2].Words[0] = uint64(math.Float32bits(-1.5)), math.Float64bits(0.1)
	is(t, f, m, "{a:-1.5 b:0.1 c:0,0,0,0,0 d:null}")
	says(t, f, "{a:NaN}", "{a:null b:null c:null d:null}")
	says(t, f, "{a:0x7fC00000 b:1e-400 c:+INF,-INF,5.E-1,.5,16777217 d:NaN,-0e9}", "{a:null b:0 c:INF,-INF,0.5,0.5,16777216 d:NaN,-0}")
}

// P23.1, P23.3: every byte of data, and of characters.
func TestBytes(t *testing.T) {
	all := make([]byte, 256)
	for i := range all {
		all[i] = byte(i)
	}
	f := made(t, "c:char*256 e:char d$16")
	m := tree("M c=1 e=1 d$")
	m[1].Words = make([]uint64, 256)
	for i := range 256 {
		m[1].Words[i], m[2].Words[0], m[3].Text = uint64(i), uint64(i), string(all[i:])+string(all[:i])
		one := text.Quote(string(all[i : i+1]))
		if i == 0 {
			one = "null"
		}
		c := text.Quote(string(all[:i+1]) + strings.Repeat("\x00", 255-i))
		if i == 0 {
			c = "null"
		}
		is(t, f, m, "{c:"+c+" e:"+one+" d:"+text.Quote(m[3].Text)+"}")
	}
}

// P23.1, P23.3: a choice for each value that a type of a byte has.
func TestManyChoices(t *testing.T) {
	var said strings.Builder
	said.WriteString("k:<uint8")
	for i := range 256 {
		fmt.Fprintf(&said, "|c%d=%d", i, 255-i)
	}
	f := made(t, said.String()+">")
	for i := range 256 {
		want := fmt.Sprintf("{k:c%d}", i)
		if i == 0 {
			says(t, f, want, "{k:null}")
			want = "{k:null}"
		}
		is(t, f, tree(fmt.Sprintf("M k=%d", 255-i)), want)
		says(t, f, fmt.Sprintf("{k:%d}", 255-i), want)
	}
}

// P23.1: Print refuses trees as value.Check does.
func TestRefusedTrees(t *testing.T) {
	f := made(t, chapter)
	other := func(do func(m []api.Val) []api.Val) []api.Val { return do(tree(chapterTree)) }
	set := func(i int, do func(v *api.Val)) []api.Val {
		m := tree(chapterTree)
		do(&m[i])
		return m
	}
	for _, c := range []struct {
		what string
		m    []api.Val
		want api.Errno
	}{
		{"no nodes", nil, api.ErrTree},
		{"an empty list", []api.Val{}, api.ErrTree},
		{"a node too few", other(func(m []api.Val) []api.Val { return m[:len(m)-1] }), api.ErrTree},
		{"a node too many", other(func(m []api.Val) []api.Val { return append(m, m[1]) }), api.ErrTree},
		{"two fields the other way", other(func(m []api.Val) []api.Val { m[1], m[2] = m[2], m[1]; return m }), api.ErrTree},
		{"another message", set(0, func(v *api.Val) { v.Name = "N" }), api.ErrTree},
		{"another name", set(1, func(v *api.Val) { v.Name = "z" }), api.ErrTree},
		{"another depth", set(1, func(v *api.Val) { v.Depth = 3 }), api.ErrTree},
		{"another kind", set(1, func(v *api.Val) { v.Kind = api.ValData }), api.ErrTree},
		{"a kind that is none", set(1, func(v *api.Val) { v.Kind = -1 }), api.ErrTree},
		{"a kind beyond", set(1, func(v *api.Val) { v.Kind = 5 }), api.ErrTree},
		{"an entry's name", set(7, func(v *api.Val) { v.Name = "g" }), api.ErrTree},
		{"a field's text", set(1, func(v *api.Val) { v.Text = "x" }), api.ErrTree},
		{"data's words", set(11, func(v *api.Val) { v.Words = []uint64{1} }), api.ErrTree},
		{"a word too many", set(1, func(v *api.Val) { v.Words = []uint64{1, 2} }), api.ErrWords},
		{"no word", set(1, func(v *api.Val) { v.Words = nil }), api.ErrWords},
		{"a word too great", set(1, func(v *api.Val) { v.Words[0] = 256 }), api.ErrFit},
		{"a word that isn't sign extended", set(2, func(v *api.Val) { v.Words[0] = 0xFFFF }), api.ErrFit},
		{"a char too great", set(3, func(v *api.Val) { v.Words[2] = 256 }), api.ErrFit},
		{"an enum's word", set(4, func(v *api.Val) { v.Words[0] = 256 }), api.ErrFit},
		{"data too long", set(11, func(v *api.Val) { v.Text = strings.Repeat("x", 255) }), api.ErrData},
	} {
		refuseTree(t, c.what, f, c.m, c.want)
		if s, e := words.Print(api.Form{}, c.m); e != api.ErrTokens || s != "" {
			t.Errorf("P23.1: %s, and no form: %q, %v", c.what, s, e)
		}
	}
	entries := func(n int) []api.Val { return tree("M g{" + strings.Repeat(" -", n) + " }") }
	refuseTree(t, "an entry too many", made(t, "g{8 }"), entries(255), api.ErrEntries)
	holdTree(t, made(t, "g{8 }"), entries(254))
	refuseTree(t, "an entry too many", made(t, "g{32 }"), entries(65537), api.ErrEntries)
	holdTree(t, made(t, "g{32 }"), entries(65536))
	long := func(n int) []api.Val { return tree("M d$" + strings.Repeat("x", n)) }
	refuseTree(t, "a byte too many", made(t, "d$32"), long(api.MaxMessage-8-4+1), api.ErrLong)
	holdTree(t, made(t, "d$32"), long(api.MaxMessage-8-4))
	// Of two that are wrong the first node's is told, as value.Check tells it.
	m := tree(chapterTree)
	m[1].Words[0], m[2].Words = 256, nil
	refuseTree(t, "a word that doesn't fit, and none", f, m, api.ErrFit)
	m[1].Words = nil
	m[2].Words = []uint64{1 << 40, 1}
	refuseTree(t, "none, and a word that doesn't fit", f, m, api.ErrWords)
}

// P23.1: trees cut at every node, and with each node twice.
func TestSpoiltTrees(t *testing.T) {
	f := grown(t)
	m := tree(grownTree)
	for i := range m {
		refuseTree(t, fmt.Sprint("cut at ", i), f, m[:i], api.ErrTree)
		twice := append(append(append([]api.Val{}, m[:i+1]...), m[i]), m[i+1:]...)
		if m[i].Kind == api.ValEntry {
			continue
		}
		refuseTree(t, fmt.Sprint("twice ", i), f, twice, api.ErrTree)
	}
}
