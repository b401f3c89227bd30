package words_test

import (
	"slices"
	"strings"
	"testing"

	"stencil/api"
)

// fault is a text, and what is wrong with it where.
type fault struct {
	s   string
	err api.Errno
	at  int
}

func refuseAll(t *testing.T, f api.Form, faults []fault) {
	t.Helper()
	for _, c := range faults {
		refuse(t, f, c.s, c.err, c.at)
	}
}

// P23.2: texts that end too early: cut at every byte, and with a blank behind.
func TestCut(t *testing.T) {
	for said, s := range map[string]string{
		chapter: chapterText,
		"c:char*2 q:(<char|A=65>,char*3,uint8*2) g{8 h{8 d$8 } d$8 } d$8": ` { c : "\x61\"" q : A ; "\\\n\x00" ; 0x1 , 2 g:[ { d : "" h : [ {} { d : "\xff" } ] } ] d : "a b" } `,
	} {
		f := made(t, said)
		if e := hold(t, f, s); e != ok {
			t.Fatalf("P23.2: %v", e)
		}
		end := strings.LastIndex(s, "}")
		for n := range s {
			e := hold(t, f, s[:n])
			if n <= end && e == ok || n > end && e != ok {
				t.Errorf("P23.2: Parse(%q) = %v", s[:n], e)
			}
			hold(t, f, s[:n]+" \n")
			hold(t, f, s[:n]+"\"")
			hold(t, f, s[n:])
			hold(t, f, s[:n]+s[n+1:])
			for _, c := range "{}[]:;,\" \x00az01\\" {
				hold(t, f, s[:n]+string(c)+s[n+1:])
				hold(t, f, s[:n]+string(c)+s[n:])
			}
		}
	}
	f := made(t, chapter)
	refuseAll(t, f, []fault{
		{"", api.ErrSyntax, 0},
		{" ", api.ErrSyntax, 1},
		{"\t\n\r ", api.ErrSyntax, 4},
		{"{", api.ErrSyntax, 1},
		{"{ ", api.ErrSyntax, 2},
		{"{a", api.ErrSyntax, 2},
		{"{z", api.ErrSyntax, 1},
		{"{a:", api.ErrSyntax, 3},
		{"{a:1", api.ErrSyntax, 4},
		{"{a:1 ", api.ErrSyntax, 5},
		{"{a:null", api.ErrSyntax, 7},
		{"{b:1", api.ErrWords, 4},
		{"{b:1 ", api.ErrWords, 5},
		{"{b:1,", api.ErrSyntax, 5},
		{"{b:1, ", api.ErrSyntax, 6},
		{"{b:1,2", api.ErrSyntax, 6},
		{"{p:1", api.ErrWords, 4},
		{"{p:1;", api.ErrSyntax, 5},
		{"{c:", api.ErrSyntax, 3},
		{`{c:"abc"`, api.ErrSyntax, 8},
		{"{g", api.ErrSyntax, 2},
		{"{g:", api.ErrSyntax, 3},
		{"{g:[", api.ErrSyntax, 4},
		{"{g:[{", api.ErrSyntax, 5},
		{"{g:[{}", api.ErrSyntax, 6},
		{"{g:[{}]", api.ErrSyntax, 7},
		{`{d:""`, api.ErrSyntax, 5},
	})
}

// P23.2: ErrSyntax, where the grammar wants another piece.
func TestOtherPieces(t *testing.T) {
	f := made(t, chapter)
	pieces := []string{"{", "}", "[", "]", ":", ";", ",", "a", "z", "1", "null", `"x"`, `""`}
	for _, c := range []struct {
		ahead string
		stand []string // which of the pieces may stand behind it
		other []string // which are refused by another error
	}{
		{"", []string{"{"}, nil},
		{"{", []string{"}", "a"}, nil},
		{"{a", []string{":"}, nil},
		{"{a:", []string{"1", "null"}, []string{"a", "z"}},
		{"{a:1", []string{"}"}, []string{";", ","}},
		{"{a:null", []string{"}"}, []string{";", ","}},
		{"{b:1,", []string{"1"}, []string{"a", "z", "null"}},
		{"{b:1,2", []string{"}", "a"}, []string{";", ","}},
		{"{p:1;", []string{"1"}, []string{"a", "z", "null"}},
		{"{c:", []string{"null"}, []string{`"x"`, `""`}},
		{`{c:"abc"`, []string{"}", "a"}, []string{";", ","}},
		{"{k:", []string{"1", "null"}, []string{"a", "z"}},
		{"{k:Buy", []string{"}", "a"}, []string{";", ","}},
		{"{d:", []string{`"x"`, `""`}, nil},
		{`{d:"w"`, []string{"}", "a"}, nil},
		{"{g:", []string{"["}, nil},
		{"{g:[", []string{"{", "]"}, nil},
		{"{g:[{", []string{"}"}, nil},
		{"{g:[{}", []string{"{", "]"}, nil},
		{"{g:[]", []string{"}", "a"}, nil},
		{"{}", nil, nil},
		{`{g:[{x:1}] d:""}`, nil, nil},
	} {
		for _, p := range pieces {
			s := c.ahead + " " + p
			at := len(c.ahead) + 1
			switch {
			case slices.Contains(c.stand, p):
				if e, at := faultOf(f, s); e != ok && at != len(s) {
					t.Errorf("P23.2: Parse(%q) = %v, %d", s, e, at)
				}
				hold(t, f, s)
			case slices.Contains(c.other, p):
				if e := hold(t, f, s); e == ok || e == api.ErrSyntax {
					t.Errorf("P23.2: Parse(%q) = %v", s, e)
				}
			default:
				refuse(t, f, s, api.ErrSyntax, at)
			}
		}
	}
	refuseAll(t, f, []fault{
		{"a:1", api.ErrSyntax, 0},
		{"[]", api.ErrSyntax, 0},
		{"}", api.ErrSyntax, 0},
		{"null", api.ErrSyntax, 0},
		{`"{}"`, api.ErrSyntax, 0},
		{"{{}}", api.ErrSyntax, 1},
		{"{a:{1}}", api.ErrSyntax, 3},
		{"{a:[1]}", api.ErrSyntax, 3},
		{"{a::1}", api.ErrSyntax, 3},
		{"{a:1]", api.ErrSyntax, 4},
		{"{g:[}", api.ErrSyntax, 4},
		{"{g:[{]}", api.ErrSyntax, 5},
		{"{g:[{},{}]}", api.ErrSyntax, 6},
		{"{g:[{};{}]}", api.ErrSyntax, 6},
		{"{g:[1]}", api.ErrSyntax, 4},
		{"{g:[null]}", api.ErrSyntax, 4},
		{"{g:null}", api.ErrSyntax, 3},
		{`{g:"x"}`, api.ErrSyntax, 3},
		{"{d:null}", api.ErrSyntax, 3},
		{"{d:1}", api.ErrSyntax, 3},
		{"{d:[]}", api.ErrSyntax, 3},
		{`{d:"a""b"}`, api.ErrSyntax, 6},
		{`{d:"a","b"}`, api.ErrSyntax, 6},
		{`{d:"a";"b"}`, api.ErrSyntax, 6},
		{"{g:[],a:1}", api.ErrSyntax, 5},
		{`{d:"",a:1}`, api.ErrSyntax, 5},
		{"{,}", api.ErrSyntax, 1},
		{"{;}", api.ErrSyntax, 1},
		{"{:}", api.ErrSyntax, 1},
		{"{a:1:2}", api.ErrSyntax, 4},
		{"{a:1{}}", api.ErrSyntax, 4},
		{"{} {}", api.ErrSyntax, 3},
		{"{}}", api.ErrSyntax, 2},
		{"{},", api.ErrSyntax, 2},
		{"{}\nx", api.ErrSyntax, 3},
	})
}

// P23.2: ErrQuote, wherever a quoted text stands that is none, also where another piece is wanted.
func TestQuotes(t *testing.T) {
	f := made(t, chapter)
	for _, ahead := range []string{"", "{", "{a", "{a:", "{a:1", "{a:null", "{b:1", "{b:1,", "{b:null", "{p:1", "{p:1;", "{c:", `{c:"abc"`, "{k:", "{k:Buy", "{g", "{g:", "{g:[", "{g:[{", "{g:[{x:", "{g:[{}", "{g:[]", "{d", "{d:", `{d:""`, "{}", "{a:1}", chapterText} {
		for spoilt, at := range map[string]int{
			`"`:         1,
			`"hi`:       3,
			`"hi}`:      4,
			`"\q"`:      2,
			`"\"`:       3,
			`"\`:        2,
			`"\x"`:      3,
			`"\x4g"`:    4,
			`"\x4`:      4,
			"\"a\nb\"":  2,
			"\"\x00\"":  1,
			"\"\x1f\"":  1,
			"\"ab\t\"}": 3,
		} {
			refuse(t, f, ahead+" "+spoilt, api.ErrQuote, len(ahead)+1+at)
			refuse(t, f, ahead+spoilt, api.ErrQuote, len(ahead)+at)
		}
	}
	refuseAll(t, f, []fault{
		{`{d:"hi}`, api.ErrQuote, 7},
		{`{"a`, api.ErrQuote, 3},
		{`{a"b:1}`, api.ErrQuote, 7},
		{`{a:1"`, api.ErrQuote, 5},
		{`{} "`, api.ErrQuote, 4},
		// One that is behind another fault isn't come to.
		{`{z "`, api.ErrSyntax, 1},
		{`{a:256 "`, api.ErrTooBig, 3},
		{`{a:1x"`, api.ErrNumber, 4},
		{`{c:"ab" "`, api.ErrWords, 3},
		{`{a:1 a"`, api.ErrSyntax, 5},
		{`{a:1,"`, api.ErrWords, 4},
		{`{b:1;"`, api.ErrWords, 4},
		{`{a:null,"`, api.ErrWords, 7},
		{`{} x "`, api.ErrSyntax, 3},
		{`x "`, api.ErrSyntax, 0},
		{`{a:} "`, api.ErrSyntax, 3},
		// What stands in a quoted text is no piece.
		{`{d:"}" z}`, api.ErrSyntax, 7},
		{`{d:"\"" z}`, api.ErrSyntax, 8},
	})
}

// P23.2: number.Parse's errors, with the piece's place added.
func TestNumbers(t *testing.T) {
	f := made(t, "a:uint8 b:int16*3 x:float y:(double,int64) u:uint64 k:<int8|Buy=1> s:[uint16|T=0] g{8 z:int32 }")
	refuseAll(t, f, []fault{
		{"{a:256}", api.ErrTooBig, 3},
		{"{a:-1}", api.ErrTooBig, 3},
		{"{a:0x100}", api.ErrTooBig, 3},
		{"{a:-}", api.ErrNumber, 4},
		{"{a:0x}", api.ErrNumber, 5},
		{"{a:0xg}", api.ErrNumber, 5},
		{"{a:1.5}", api.ErrNumber, 4},
		{"{a:+0x1}", api.ErrNumber, 5},
		{"{a:x}", api.ErrNumber, 3},
		{"{a:#1}", api.ErrNumber, 3},
		{"{a:  12z}", api.ErrNumber, 7},
		{"{a:99999999999999999999999999}", api.ErrTooBig, 3},
		{"{b:1,2,32768}", api.ErrTooBig, 7},
		{"{b:1,-32769,x}", api.ErrTooBig, 5},
		{"{b:1,2x,3x}", api.ErrNumber, 6},
		{"{b:0,null,0}", api.ErrNumber, 5},
		{"{x:1e}", api.ErrNumber, 5},
		{"{x:.}", api.ErrNumber, 4},
		{"{x:1e39}", api.ErrTooBig, 3},
		{"{x:0x3f80000}", api.ErrNumber, 12},
		{"{x:0x3f8000000}", api.ErrNumber, 13},
		{"{x:IN}", api.ErrNumber, 5},
		{"{x:inf}", api.ErrNumber, 3},
		{"{y:1e309;1}", api.ErrTooBig, 3},
		{"{y:1e308;9223372036854775808}", api.ErrTooBig, 9},
		{"{y:0;1e3}", api.ErrNumber, 6},
		{"{u:18446744073709551616}", api.ErrTooBig, 3},
		{"{u:-1}", api.ErrTooBig, 3},
		{"{k:Sell}", api.ErrNumber, 3},
		{"{k:128}", api.ErrTooBig, 3},
		{"{k:1.}", api.ErrNumber, 4},
		{"{s:T}", api.ErrNumber, 3},
		{"{s:65536}", api.ErrTooBig, 3},
		{"{g:[{z:1}\n{z:2147483648}]}", api.ErrTooBig, 13},
		{"{g:[{z:1} {z:-2147483649x}]}", api.ErrNumber, 24},
		// A fault of an element stands ahead of what stands behind it.
		{"{a:256,1}", api.ErrTooBig, 3},
		{"{a:1x;}", api.ErrNumber, 4},
		{"{b:x}", api.ErrNumber, 3},
		{"{a:256 a:1}", api.ErrTooBig, 3},
		{"{a:300", api.ErrTooBig, 3},
	})
}

// P23.2: ErrWords: elements too few and too many of a leaf, leaves too few and too many of a field, commas for semicolons and semicolons for commas.
func TestCounts(t *testing.T) {
	f := made(t, `a:uint8 b:int8*3 c:char*3 k:<uint8|A=1> e:(uint8*2,char*2,<char|Q=81>,int8) g{8 a:uint8 b:uint8*2 }`)
	refuseAll(t, f, []fault{
		{"{a:1,2}", api.ErrWords, 4},
		{"{a:1;2}", api.ErrWords, 4},
		{"{a:1,}", api.ErrWords, 4},
		{"{a:1 ;}", api.ErrWords, 5},
		{"{a:1\n,\"", api.ErrWords, 5},
		{"{a:,}", api.ErrSyntax, 3},
		{"{a:;}", api.ErrSyntax, 3},
		{"{k:A,A}", api.ErrWords, 4},
		{"{k:A;}", api.ErrWords, 4},
		{"{b:1}", api.ErrWords, 4},
		{"{b:1 2 3}", api.ErrWords, 5},
		{"{b:1,2}", api.ErrWords, 6},
		{"{b:1,2 }", api.ErrWords, 7},
		{"{b:1,2 a:3}", api.ErrWords, 7},
		{"{b:1,2]", api.ErrWords, 6},
		{"{b:1,2[", api.ErrWords, 6},
		{"{b:1,2{", api.ErrWords, 6},
		{"{b:1,2:", api.ErrWords, 6},
		{`{b:1,2"x"`, api.ErrWords, 6},
		{"{b:1,2", api.ErrWords, 6},
		{"{b:1,2\n", api.ErrWords, 7},
		{"{b:1;2,3}", api.ErrWords, 4},
		{"{b:1,2;3}", api.ErrWords, 6},
		{"{b:1,2,3,4}", api.ErrWords, 8},
		{"{b:1,2,3;4}", api.ErrWords, 8},
		{"{b:1,2,3,}", api.ErrWords, 8},
		{"{b:1,,3}", api.ErrSyntax, 5},
		{"{b:1,;3}", api.ErrSyntax, 5},
		{"{b:,1,2,3}", api.ErrSyntax, 3},
		{"{b:1,}", api.ErrSyntax, 5},
		{`{b:1,"2",3}`, api.ErrSyntax, 5},
		{`{c:""}`, api.ErrWords, 3},
		{`{c:"ab"}`, api.ErrWords, 3},
		{`{c:"abcd"}`, api.ErrWords, 3},
		{`{c:  "\x61\x62"}`, api.ErrWords, 5},
		{`{c:"é\x00\x00"}`, api.ErrWords, 3},
		{`{c:"abc",}`, api.ErrWords, 8},
		{`{c:"abc";"d"}`, api.ErrWords, 8},
		{`{c:"a","b","c"}`, api.ErrWords, 3},
		{`{c:"abc""d"}`, api.ErrSyntax, 8},
		{`{c:"ab`, api.ErrQuote, 6},
		{"{c:97,98,99}", api.ErrSyntax, 3},
		{`{e:1,2;"ab";Q;3,}`, api.ErrWords, 15},
		{`{e:1,2;"ab";Q;3;}`, api.ErrWords, 15},
		{`{e:1,2;"ab";Q}`, api.ErrWords, 13},
		{`{e:1,2;"ab";Q,3}`, api.ErrWords, 13},
		{`{e:1,2;"ab";"Q",3}`, api.ErrWords, 15},
		{`{e:1,2;"ab";"QQ";3}`, api.ErrWords, 12},
		{`{e:1,2;"ab";Q 3}`, api.ErrWords, 14},
		{`{e:1,2;"ab"}`, api.ErrWords, 11},
		{`{e:1,2;"ab","Q";3}`, api.ErrWords, 11},
		{`{e:1,2;"abc";Q;3}`, api.ErrWords, 7},
		{`{e:1,2;"a";Q;3}`, api.ErrWords, 7},
		{`{e:1,2,"ab";Q;3}`, api.ErrWords, 6},
		{`{e:1,2}`, api.ErrWords, 6},
		{`{e:1;2;"ab";Q;3}`, api.ErrWords, 4},
		{`{e:1}`, api.ErrWords, 4},
		{`{e:1,2;Q;Q;3}`, api.ErrSyntax, 7},
		{`{e:1,2;"ab";R;3}`, api.ErrSyntax, 12},
		{`{e:1,2;"ab";81;3}`, api.ErrSyntax, 12},
		{`{e:1,2;;Q;3}`, api.ErrSyntax, 7},
		{`{e:1,2;"ab";Q;}`, api.ErrSyntax, 14},
		// null stands for a field alone.
		{"{a:null,1}", api.ErrWords, 7},
		{"{a:null;}", api.ErrWords, 7},
		{"{a:null ,}", api.ErrWords, 8},
		{"{b:null,null,null}", api.ErrWords, 7},
		{"{b:1,null,null}", api.ErrNumber, 5},
		{"{e:null;null}", api.ErrWords, 7},
		{`{e:null;"ab"`, api.ErrWords, 7},
		{`{e:1,null;"ab";Q;3}`, api.ErrNumber, 5},
		{`{e:1,2;null;Q;3}`, api.ErrSyntax, 7},
		{`{e:1,2;"ab";null;3}`, api.ErrSyntax, 12},
		{`{e:1,2;"ab";Q;null}`, api.ErrNumber, 14},
		{"{c:null,}", api.ErrWords, 7},
		{"{a:null null}", api.ErrSyntax, 8},
		{"{a:null:", api.ErrSyntax, 7},
		{"{a:null 1}", api.ErrSyntax, 8},
		{`{a:null "x"}`, api.ErrSyntax, 8},
		{"{a:NULL}", api.ErrNumber, 3},
		{"{a:nul}", api.ErrNumber, 3},
		{"{a:null1}", api.ErrNumber, 3},
		{`{c:"null"}`, api.ErrWords, 3},
		// In an entry as in a message.
		{"{g:[{b:1}]}", api.ErrWords, 8},
		{"{g:[{b:1,2,3}]}", api.ErrWords, 10},
		{"{g:[{a:1 b:1;2}]}", api.ErrWords, 12},
		{"{g:[{a:null,1}]}", api.ErrWords, 11},
	})
	says(t, f, `{e:1,2;"ab";Q;3}`, `{a:null b:null c:null k:null e:1,2;"ab";Q;3 g:[]}`)
	says(t, f, `{ e : 1 , 2 ; "\x00\xff" ; "\x00" ; -0 }`, `{a:null b:null c:null k:null e:1,2;"\x00\xff";"\x00";0 g:[]}`)
}

// P23.2: of two faults the first in the text is told, whatever they are.
func TestFirstFault(t *testing.T) {
	f := made(t, "a:uint8 b:int8*2 c:char g{8 x:uint8 } d$8")
	whole := []string{"{", "a:1", "b:1,2", `c:"c"`, "g:[{x:1}", "{x:2}", "]", `d:"d"`, "}"}
	spoilt := []string{"", "a:256", "b:1;2", `c:"cc"`, "g:[{z:1}", `{x:"\q"}`, "", `d:d`, ""}
	says(t, f, strings.Join(whole, " "), `{a:1 b:1,2 c:"c" g:[{x:1} {x:2}] d:"d"}`)
	for i, one := range spoilt {
		for k, two := range spoilt[:i] {
			if one == "" || two == "" {
				continue
			}
			pieces := append([]string{}, whole...)
			pieces[k] = two
			first := strings.Join(pieces, " ")
			pieces[i] = one
			both := strings.Join(pieces, " ")
			want, at := faultOf(f, first)
			if want == ok {
				t.Fatalf("%q is no fault", two)
			}
			refuse(t, f, both, want, at)
		}
	}
}

// faultOf is what the second look says of a text.
func faultOf(f api.Form, s string) (api.Errno, int) {
	_, e, at := secondOf(f).parse(s)
	return e, at
}
