package words_test

import (
	"fmt"
	"slices"
	"strings"
	"testing"

	"stencil/api"
	"stencil/words"
)

// chapterPieces are those of the chapter's text.
var chapterPieces = strings.Fields(`{ a : 7 b : -1 , 2 c : "ab\x00" k : Sell p : 5 ; 6 g : [ { x : 1 } { x : null } ] d : "hi" }`)

// P23.2: blanks of each kind between each two pieces, ahead of the first and behind the last; and none, where two atoms don't touch.
func TestBlanks(t *testing.T) {
	f := made(t, chapter)
	for _, blank := range []string{" ", "\t", "\n", "\r", " \t\n\r", "\r\n\r\n", strings.Repeat(" ", 1000)} {
		says(t, f, blank+strings.Join(chapterPieces, blank)+blank, chapterText)
		for i := 1; i < len(chapterPieces); i++ {
			says(t, f, strings.Join(chapterPieces[:i], " ")+blank+strings.Join(chapterPieces[i:], " "), chapterText)
		}
	}
	says(t, f, `{a:7 b:-1,2 c:"ab\x00"k:Sell p:5;6 g:[{x:1}{x:null}]d:"hi"}`, chapterText)
	refuse(t, f, "{p:5;6g:[]}", api.ErrNumber, 6)
	refuse(t, f, "{k:Sellp:5;6}", api.ErrNumber, 3)
	refuse(t, f, "{a:1 2}", api.ErrSyntax, 5)
	refuse(t, f, "{a:0x 7}", api.ErrNumber, 5)
	refuse(t, f, "{k:Se ll}", api.ErrNumber, 3)
	refuse(t, f, "{k:nu ll}", api.ErrNumber, 3)
}

// P23.2: other bytes are no blanks: they are a part of an atom.
func TestNoBlanks(t *testing.T) {
	f := made(t, chapter)
	for _, c := range []string{"\v", "\f", "\x00", "\x1f", "\x7f", "\x80", "\xa0", "\xc2\xa0", "\u2028", "\xef\xbb\xbf", "\x85", "/", "#", "=", "(", ")", "<", ">", "'", "`", "\\", "|", "&"} {
		refuse(t, f, c+"{}", api.ErrSyntax, 0)
		refuse(t, f, "{}"+c, api.ErrSyntax, 2)
		refuse(t, f, "{"+c+"a:1}", api.ErrSyntax, 1)
		refuse(t, f, "{a"+c+":1}", api.ErrSyntax, 1)
		refuse(t, f, "{a:"+c+"1}", api.ErrNumber, 3)
		refuse(t, f, "{a:1"+c+"}", api.ErrNumber, 4)
		refuse(t, f, "{k:Sell"+c+"}", api.ErrNumber, 3)
		refuse(t, f, "{k:"+c+"}", api.ErrNumber, 3)
		refuse(t, f, `{d:"hi"`+c+"}", api.ErrSyntax, 7)
	}
}

// P23.2: pieces that end one another need no blank.
func TestNoBlankBetween(t *testing.T) {
	f := made(t, "a:uint8 c:char*2 b:(uint8,char,uint8*2) g{8 x:uint8 d$8 } d$8 e$8")
	const want = `{a:1 c:"ab" b:2;"x";3,4 g:[{x:5 d:"y"} {x:6 d:""}] d:"z" e:"w"}`
	says(t, f, `{c:"ab"a:1 b:2;"x";3,4 g:[{x:5 d:"y"}{d:""x:6}]d:"z"e:"w"}`, want)
	says(t, f, `{d:"z"e:"w"c:"ab"g:[{d:"y"x:5}{x:6}]b:2;"x";3,4 a:1}`, want)
}

// P23.3: the items of a block in every order.
func TestOrders(t *testing.T) {
	f := made(t, "a:uint8 k:<uint8|A=1> g{8 x:uint8 y:(int8,int8) e$8 } d$8")
	const want = `{a:1 k:A g:[{x:null y:null e:""} {x:2 y:3;4 e:"f"}] d:"h"}`
	outer := []string{"a:1", "k:A", "", `d:"h"`}
	inner := []string{"x:2", "y:3;4", `e:"f"`}
	for _, i := range orders(len(inner)) {
		outer[2] = "g:[{} {" + strings.Join(sorted(inner, i), " ") + "}]"
		for _, o := range orders(len(outer)) {
			says(t, f, "{"+strings.Join(sorted(outer, o), " ")+"}", want)
		}
	}
}

// orders are all of so many things.
func orders(n int) [][]int {
	if n == 0 {
		return [][]int{nil}
	}
	var out [][]int
	for _, o := range orders(n - 1) {
		for i := range n {
			out = append(out, slices.Insert(slices.Clone(o), i, n-1))
		}
	}
	return out
}

func sorted(list []string, order []int) []string {
	var out []string
	for _, i := range order {
		out = append(out, list[i])
	}
	return out
}

// P23.2: what doesn't come is null, empty, "": every choice of items.
func TestMissing(t *testing.T) {
	f := made(t, chapter)
	items := []string{"a:7", "b:-1,2", `c:"ab\x00"`, "k:Sell", "p:5;6", "g:[{x:1} {x:null}]", `d:"hi"`}
	nulls := []string{"a:null", "b:null", "c:null", "k:null", "p:null", "g:[]", `d:""`}
	for set := range 1 << len(items) {
		var some, want []string
		for i := range items {
			if set&(1<<i) != 0 {
				some, want = append(some, items[i]), append(want, items[i])
			} else {
				want = append(want, nulls[i])
			}
		}
		says(t, f, "{"+strings.Join(some, " ")+"}", "{"+strings.Join(want, " ")+"}")
	}
	says(t, f, "{"+strings.Join(nulls, " ")+"}", chapterNull)
}

// P23.2, P23.3: texts that say the same value otherwise.
func TestSpellings(t *testing.T) {
	f := made(t, "a:uint8 b:int16*2 c:char*3 e:char k:<uint8|Buy=1|Sell=2|null=3> q:<char|A=65> s:[uint8|T=1] x:float p:(<uint8|Buy=7>,<char|A=66>) d$8")
	for said, want := range map[string]string{
		"a:0x7":                       "a:7",
		"a:+007":                      "a:7",
		"a:-0":                        "a:0",
		"a:0XfE":                      "a:254",
		"a:255":                       "",
		"b:-0x1":                      "! E30 4",
		"b:+1,-00002":                 "b:1,-2",
		"b:-32768,-32768":             "",
		"b:-32768,null":               "! E30 9",
		`c:"\x61b\x63"`:               `c:"abc"`,
		`c:"\"\\\t"`:                  `c:"\"\\\t"`,
		`c:"\x0A\x0d\x7E"`:            `c:"\n\r~"`,
		`c:"` + "\xff\x80é"[:3] + `"`: `c:"\xff\x80\xc3"`,
		`c:"\x00\x00\x00"`:            "",
		`c:"null"`:                    "! E161 2",
		`e:"\x41"`:                    `e:"A"`,
		"k:1":                         "k:Buy",
		"k:0x02":                      "k:Sell",
		"k:Buy":                       "k:Buy",
		"k:3":                         "k:3",
		"k:buy":                       "! E30 2",
		"k:Sel":                       "! E30 2",
		"k:Selll":                     "! E30 2",
		`k:"Buy"`:                     "! E230 2",
		"k:null":                      "",
		"k:255":                       "",
		"q:A":                         "q:A",
		`q:"A"`:                       "q:A",
		`q:"\x41"`:                    "q:A",
		`q:"B"`:                       `q:"B"`,
		`q:"\x00"`:                    "",
		"q:B":                         "! E230 2",
		"q:65":                        "! E230 2",
		"q:#65":                       "! E230 2",
		`q:"AA"`:                      "! E161 2",
		`q:""`:                        "! E161 2",
		"s:0":                         "",
		"s:0x00":                      "",
		"s:2":                         "s:2",
		"s:255":                       "s:255",
		"s:T":                         "! E30 2",
		"x:1.50":                      "x:1.5",
		"x:15e-1":                     "x:1.5",
		"x:0x3fc00000":                "x:1.5",
		"x:NaN":                       "",
		"x:nan":                       "! E30 2",
		"x:1e39":                      "! E31 2",
		"x:1.2.3":                     "! E30 5",
		"p:7;A":                       "p:Buy;A",
		`p:0x7;"B"`:                   "p:Buy;A",
		`p:Buy;"A"`:                   `p:Buy;"A"`,
		`p:255;"\x00"`:                "",
		"p:null;A":                    "! E161 6",
		"p:255;null":                  "! E230 6",
		"p:Buy;Buy":                   "! E230 6",
		"p:A;A":                       "! E30 2",
		`d:"\x68\x69"`:                `d:"hi"`,
		`d:"null"`:                    `d:"null"`,
		`d:"{a:1} \"x\" \x00,"`:       `d:"{a:1} \"x\" \x00,"`,
	} {
		if strings.HasPrefix(want, "! ") {
			var err, at int
			fmt.Sscanf(want, "! E%d %d", &err, &at)
			refuse(t, f, "{"+said+"}", api.Errno(err), at+1)
			continue
		}
		names := []string{"a", "b", "c", "e", "k", "q", "s", "x", "p", "d"}
		for i, name := range names {
			names[i] = name + ":null"
			if name == "d" {
				names[i] = `d:""`
			}
			if want != "" && want[:1] == name {
				names[i] = want
			}
		}
		says(t, f, "{"+said+"}", "{"+strings.Join(names, " ")+"}")
	}
}

// P23.2: names are looked for in their own block, and come once in each.
func TestNames(t *testing.T) {
	f := made(t, "a:uint8 k! l:() g{8 a:uint8 x:uint8 l! h{8 x:uint8 y:uint8 } } n{8 x:uint8 } d$8")
	says(t, f, "{g:[{a:1 h:[{x:2} {x:3 y:4}] x:5} {a:6 x:7}] n:[{x:8}] a:9}", `{a:9 g:[{a:1 x:5 h:[{x:2 y:null} {x:3 y:4}]} {a:6 x:7 h:[]}] n:[{x:8}] d:""}`)
	for _, name := range []string{"x", "h", "y", "k", "l", "M", "C", "coding", "A", "aa", "", "_", "0", "null", "\x00"} {
		s := "{" + name + ":1}"
		if name == "" {
			s = "{:1}"
		}
		refuse(t, f, s, api.ErrSyntax, 1)
	}
	for _, name := range []string{"d", "n", "g", "y", "k", "l", "M", "e"} {
		refuse(t, f, "{g:[{"+name+":1}]}", api.ErrSyntax, 5)
	}
	refuse(t, f, `{"a":1}`, api.ErrSyntax, 1)
	refuse(t, f, "{g:[{x:1 a:2 x:1}]}", api.ErrSyntax, 13)
	refuse(t, f, "{g:[{h:[{x:1 x:1}]}]}", api.ErrSyntax, 13)
	refuse(t, f, "{g:[{h:[] x:1 h:[]}]}", api.ErrSyntax, 14)
	refuse(t, f, "{g:[] g:[]}", api.ErrSyntax, 6)
	refuse(t, f, `{d:"" a:1 d:""}`, api.ErrSyntax, 10)
	// What has come inside of a group has not come behind it, and the other way.
	says(t, f, "{g:[{x:1 h:[{x:1} {x:1}] a:1} {x:1 h:[{x:1}] a:1}] a:1}", `{a:1 g:[{a:1 x:1 h:[{x:1 y:null} {x:1 y:null}]} {a:1 x:1 h:[{x:1 y:null}]}] n:[] d:""}`)
	refuse(t, f, "{a:1 g:[{a:1}] a:1}", api.ErrSyntax, 15)
	refuse(t, f, "{a:null a:null}", api.ErrSyntax, 8)
	refuse(t, f, "{g:[{a:1 h:[{x:1}] a:1}]}", api.ErrSyntax, 19)
}

// P23.2: the tree that is read may be refused by value.Check, behind all faults of the text.
func TestRefusedByCheck(t *testing.T) {
	f := made(t, "a:uint8 g{8 x:uint8 } d$8")
	data := `d:"` + strings.Repeat("x", 255) + `"`
	refuse(t, f, "{"+data+"}", api.ErrData, 0)
	refuse(t, f, "{"+data+" a:256}", api.ErrTooBig, len(data)+4)
	refuse(t, f, "{"+data+"} x", api.ErrSyntax, len(data)+3)
	refuse(t, f, "{"+data, api.ErrSyntax, len(data)+1)
	says(t, f, `{d:"`+strings.Repeat("x", 254)+`"}`, `{a:null g:[] d:"`+strings.Repeat("x", 254)+`"}`)
	entries := "g:[" + strings.Repeat("{}", 255) + "]"
	refuse(t, f, "{"+entries+"}", api.ErrEntries, 0)
	refuse(t, f, "{"+entries+" a:}", api.ErrSyntax, len(entries)+4)
	// Of two the one whose node stands ahead in the tree.
	refuse(t, f, "{"+data+" "+entries+"}", api.ErrEntries, 0)
	h := made(t, "g{32 x:uint8 e$8 } d$32")
	refuse(t, h, "{g:["+strings.Repeat("{}", 70000)+"]}", api.ErrEntries, 0)
	refuse(t, h, "{g:["+strings.Repeat("{}", 65536)+"{z:1}]}", api.ErrSyntax, 4+2*65536+1)
	refuse(t, h, `{d:"`+strings.Repeat("x", api.MaxMessage)+`"}`, api.ErrLong, 0)
	refuse(t, h, `{d:"`+strings.Repeat("x", api.MaxMessage)+`" g:[{} {e:"`+strings.Repeat("y", 255)+`"}]}`, api.ErrData, 0)
	refuse(t, h, `{d:"`+strings.Repeat("x", api.MaxMessage)+`" g:[`+strings.Repeat("{}", 65537)+`]}`, api.ErrEntries, 0)
	refuse(t, h, `{g:[{e:"`+strings.Repeat("y", 255)+`"}`+strings.Repeat("{}", 65536)+`]}`, api.ErrData, 0)
	refuse(t, h, `{g:[`+strings.Repeat("{}", 65536)+`{e:"`+strings.Repeat("y", 255)+`"}]}`, api.ErrEntries, 0)
	// Just as heavy as may be, and a byte more: the header, the dimension, an entry with the length of e, the length of d.
	room := api.MaxMessage - 8 - 6 - (1 + 1) - 4
	text := func(n int) string { return `{g:[{}] d:"` + strings.Repeat("x", n) + `"}` }
	says(t, h, text(room), strings.Replace(text(room), "{}", `{x:null e:""}`, 1))
	refuse(t, h, text(room+1), api.ErrLong, 0)
	refuse(t, h, text(room+1)+"x", api.ErrSyntax, len(text(room+1)))
}

// P23.2: what is no form is told ahead of all else, at 0.
func TestNoForms(t *testing.T) {
	whole := made(t, chapter)
	other := func(do func(f *api.Form)) api.Form {
		f := changed(whole, 0, func(*api.Token) {})
		do(&f)
		return f
	}
	enum := placeOf(whole, "Buy")
	for what, f := range map[string]api.Form{
		"nothing":                       {},
		"another order":                 other(func(f *api.Form) { f.Order = 2 }),
		"a version too great":           other(func(f *api.Form) { f.Version = 65535 }),
		"a version below":               other(func(f *api.Form) { f.Version = -1 }),
		"no header":                     other(func(f *api.Form) { f.Head = api.Head{} }),
		"no tokens":                     other(func(f *api.Form) { f.Tokens = nil }),
		"the end missing":               other(func(f *api.Form) { f.Tokens = f.Tokens[:len(f.Tokens)-1] }),
		"a token more":                  other(func(f *api.Form) { f.Tokens = append(f.Tokens, f.Tokens[0]) }),
		"a name that is none":           other(func(f *api.Form) { f.Tokens[1].Name = "a b" }),
		"a pair elsewhere":              other(func(f *api.Form) { f.Tokens[0].Pair = 0 }),
		"a pair far away":               other(func(f *api.Form) { f.Tokens[1].Pair = 1 << 60 }),
		"an Op that is none":            other(func(f *api.Form) { f.Tokens[2].Op = -1 }),
		"a Prim that is none":           other(func(f *api.Form) { f.Tokens[2].Prim = 11 }),
		"a Prim below":                  other(func(f *api.Form) { f.Tokens[2].Prim = -1 }),
		"a Length of 0":                 other(func(f *api.Form) { f.Tokens[2].Length = 0 }),
		"a Null that doesn't fit":       other(func(f *api.Form) { f.Tokens[2].Null = 256 }),
		"choices of one Value":          other(func(f *api.Form) { f.Tokens[enum+1].Value = 1 }),
		"choices of one name":           other(func(f *api.Form) { f.Tokens[enum+1].Name = "Buy" }),
		"a choice's Value that is none": other(func(f *api.Form) { f.Tokens[enum].Value = 256 }),
		"a set's bit that is none":      unchecked("s:[uint8|A=8]"),
		"a set's bit twice":             unchecked("s:[uint8|A=1|B=1]"),
		"an enum of floats":             unchecked("k:<float|A=1>"),
		"groups too deep":               unchecked(strings.Repeat("g{8 ", 9) + strings.Repeat("} ", 9)),
		"fields of one name":            unchecked("a:uint8 a:uint8"),
	} {
		for _, s := range []string{"", "{}", chapterText, "{a:256}", "{", `"`, "{} x"} {
			if m, e, at := words.Parse(f, s); e != api.ErrTokens || at != 0 || len(m) > 0 {
				t.Errorf("P23.2: %s: Parse(%q) = %v, %v, %d", what, s, m, e, at)
			}
		}
		for _, m := range [][]api.Val{nil, {}, tree(chapterTree), tree("M"), {{}}} {
			refuseTree(t, what, f, m, api.ErrTokens)
		}
	}
}
