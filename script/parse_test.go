package script_test

import (
	"math"
	"strings"
	"testing"

	"stencil/api"
	"stencil/script"
)

// P25.1: no word, and words that are none.
func TestParseWords(t *testing.T) {
	for n := range 5 {
		refuses(t, strings.Repeat(" ", n), api.ErrLine, n)
	}
	for _, w := range []string{"Field", "NEXT", "fiel", "fieldx", "field,", "groups", "d", "dat", "data\"a\"", "nex", "nextnext", "next\r", "\tnext", "next\t", "\tfield", "field\ta", "#", "# next", "\"next\"", "\x00", "\xff", "é", "1", "0", "=", "!", "skip", "wrap", "\n", "next\nnext"} {
		first, _, _ := strings.Cut(w, " ")
		for _, behind := range []string{"", " ", " a", " a 1", " a \"", "  1 2 3"} {
			refuses(t, first+behind, api.ErrLine, 0)
			refuses(t, "   "+first+behind, api.ErrLine, 3)
		}
	}
}

// P25.1: no name, and names that are none; next has none.
func TestParseNames(t *testing.T) {
	long := strings.Repeat("n", 64)
	for _, w := range []string{"field", "group", "data"} {
		for n := range 4 {
			refuses(t, w+strings.Repeat(" ", n), api.ErrLine, len(w)+n)
		}
		for _, name := range []string{"1", "1a", "a-b", "a.b", "a:b", "é", "\"a\"", "a\"", "\"", "#a", "a,b", "\ta", "a\t", "a\r", "a\nb", "\x00", "\xff", "-1", long + "n", strings.Repeat(long, 3)} {
			for _, behind := range []string{"", " ", " 1", " x", " \"a\"", " \"", " 1 2"} {
				refuses(t, w+" "+name+behind, api.ErrLine, len(w)+1)
				refuses(t, " "+w+"   "+name+behind, api.ErrLine, len(w)+4)
			}
		}
		kind := kindOf[w]
		for _, name := range []string{"a", "_", "Z", "a1", "_1", "next", "field", "data", long} {
			means(t, w+" "+name, api.Call{Kind: kind, Name: name})
			means(t, "  "+w+"    "+name+"   ", api.Call{Kind: kind, Name: name})
		}
	}
}

// P25.1: the words of a field.
func TestParseFieldWords(t *testing.T) {
	for s, want := range map[string][]uint64{
		"0": {0}, "7": {7}, "007": {7}, "+7": {7}, "-0": {0}, "0xff": {255}, "0X0F": {15}, "1,2,3": {1, 2, 3}, "1,1": {1, 1},
		"18446744073709551615": {math.MaxUint64}, "0xFFFFFFFFFFFFFFFF,0": {math.MaxUint64, 0}, "00000000000000000000000001": {1},
	} {
		means(t, "field a "+s, field("a", want...))
		means(t, " field  a   "+s+"  ", field("a", want...))
	}
	for _, x := range []struct {
		list string
		err  api.Errno
		at   int
	}{
		{"x", api.ErrNumber, 0}, {"-", api.ErrNumber, 1}, {",", api.ErrNumber, 0}, {"1,", api.ErrNumber, 2}, {",1", api.ErrNumber, 0}, {"1,,2", api.ErrNumber, 2}, {"1,x,y", api.ErrNumber, 2},
		{"1;2", api.ErrNumber, 1}, {"1.5", api.ErrNumber, 1}, {"1e3", api.ErrNumber, 1}, {"0x", api.ErrNumber, 2}, {"0xg", api.ErrNumber, 2}, {"1\t", api.ErrNumber, 1}, {"1\r", api.ErrNumber, 1}, {"\t1", api.ErrNumber, 0}, {"null", api.ErrNumber, 0}, {"\"1\"", api.ErrNumber, 0}, {"#65", api.ErrNumber, 0}, {"NaN", api.ErrNumber, 0},
		{"-1", api.ErrTooBig, 0}, {"18446744073709551616", api.ErrTooBig, 0}, {"1,22,18446744073709551616", api.ErrTooBig, 5}, {"7,-1,x", api.ErrTooBig, 2}, {"0x10000000000000000", api.ErrTooBig, 0},
	} {
		refuses(t, "field a "+x.list, x.err, 8+x.at)
		refuses(t, "  field long_name    "+x.list+" 2", x.err, 21+x.at)
	}
}

// P25.1: a group's count.
func TestParseCounts(t *testing.T) {
	for s, want := range map[string]int{"0": 0, "00": 0, "7": 7, "0009": 9, "254": 254, "65537": 65537, "4294967294": 4294967294, "4294967295": 4294967295, "00000000004294967295": 4294967295} {
		means(t, "group g "+s, group("g", want))
		means(t, " group   g  "+s+"   ", group("g", want))
	}
	for _, x := range []struct {
		s   string
		err api.Errno
		at  int
	}{
		{"x", api.ErrNumber, 0}, {"+1", api.ErrNumber, 0}, {"-1", api.ErrNumber, 0}, {"-0", api.ErrNumber, 0}, {"0x1", api.ErrNumber, 1}, {"1,2", api.ErrNumber, 1}, {"12.", api.ErrNumber, 2}, {"1\t", api.ErrNumber, 1}, {"2\r", api.ErrNumber, 1}, {"\"2\"", api.ErrNumber, 0},
		{"4294967296", api.ErrTooBig, 0}, {"18446744073709551616", api.ErrTooBig, 0}, {"18446744073709551617", api.ErrTooBig, 0}, {strings.Repeat("9", 100), api.ErrTooBig, 0}, {strings.Repeat("9", 100) + "x", api.ErrNumber, 100},
	} {
		refuses(t, "group g "+x.s, x.err, 8+x.at)
		refuses(t, " group  legs   "+x.s+" x", x.err, 15+x.at)
	}
}

// P25.1: the text of data, which may have spaces in it.
func TestParseTexts(t *testing.T) {
	for s, want := range map[string]string{
		`""`: "", `" "`: " ", `"   "`: "   ", `"a b  c "`: "a b  c ", `"\"\\\n\r\t\x00\xFf"`: "\"\\\n\r\t\x00\xff", "\"é\xff\"": "é\xff", `"#"`: "#", `"data d"`: "data d", `"\" \""`: "\" \"", `"\x20"`: " ",
	} {
		means(t, "data d "+s, data("d", want))
		means(t, " data  d    "+s+"  ", data("d", want))
	}
	for _, x := range []struct {
		s  string
		at int
	}{
		{"x", 0}, {"'a'", 0}, {"\\", 0}, {"\t\"a\"", 0}, {`"`, 1}, {`"a`, 2}, {`"a b `, 5}, {`"\"`, 3}, {`"\q"`, 2}, {`"\`, 2}, {`"\x"`, 3}, {`"\x4g"`, 4}, {`"\x4`, 4}, {`"\x 4"`, 3}, {"\"a\nb\"", 2}, {"\"\t\"", 1}, {"\"a b\r\"", 4}, {"7", 0}, {"7 \"a\"", 0},
	} {
		refuses(t, "data d "+x.s, api.ErrQuote, 7+x.at)
		refuses(t, "  data  dd   "+x.s, api.ErrQuote, 13+x.at)
	}
}

// P25.1: what stands behind a call that is whole.
func TestParseBehind(t *testing.T) {
	for _, s := range []string{"field a 1", "group g 1", "next", `data d "a"`, `data d ""`} {
		for _, x := range []string{"x", "1", "\"", "#", "# why", "\t", "\r", ",", "next", "\x00", "\xff", "x y"} {
			refuses(t, s+" "+x, api.ErrLine, len(s)+1)
			refuses(t, " "+s+"    "+x, api.ErrLine, len(s)+5)
		}
	}
	// Behind a quoted text no space need stand.
	for _, x := range []string{"x", "\"", "\"\"", ",", "\t", "\r", "\\", "\n"} {
		refuses(t, `data d "a b"`+x, api.ErrLine, 12)
	}
	refuses(t, `data d"a"`, api.ErrLine, 5)
}

// P25.1: of several faults the first from the left is told.
func TestParseFirstFault(t *testing.T) {
	refuses(t, "jump 1a x y", api.ErrLine, 0)
	refuses(t, "field 1a x y", api.ErrLine, 6)
	refuses(t, "field a x y", api.ErrNumber, 8)
	refuses(t, "field a -1,x y", api.ErrTooBig, 8)
	refuses(t, "group 1a x y", api.ErrLine, 6)
	refuses(t, "group g x y", api.ErrNumber, 8)
	refuses(t, "data 1a x y", api.ErrLine, 5)
	refuses(t, "data d x y", api.ErrQuote, 7)
	refuses(t, "data d \"\\q\" \"", api.ErrQuote, 9)
	refuses(t, "next 1a x", api.ErrLine, 5)
}

// each calls do with every text of up to n pieces.
func each(n int, pieces []string, do func(s string)) {
	do("")
	if n == 0 {
		return
	}
	for _, p := range pieces {
		each(n-1, pieces, func(s string) {
			do(p + s)
		})
	}
}

// hold asks of a line what the second look says, and of what it means that its line means the same.
func hold(t *testing.T, line string) api.Errno {
	t.Helper()
	c, e, at := script.Parse(line)
	want, must, place := parseAgain(line)
	if !same(c, want) || e != must || at != place {
		t.Fatalf("P25.1: Parse(%s) = %s, %v, %d; want %s, %v, %d", short(line), shown(c), e, at, shown(want), must, place)
	}
	if e != ok {
		return e
	}
	s, e := script.Print(c)
	back, err, _ := script.Parse(s)
	if e != ok || err != ok || !same(back, c) {
		t.Fatalf("P25.2: of %s: Print(%s) = %s, %v, which is read as %s, %v", short(line), shown(c), short(s), e, shown(back), err)
	}
	return ok
}

// P25.1, P25.2: all lines of few pieces, held against the second look.
func TestAllShortLines(t *testing.T) {
	got := map[api.Errno]int{}
	each(5, []string{"field", "group", "next", "data", " ", "a", "1", ",", "\"", "-", "#", "\\", "\t"}, func(s string) { got[hold(t, s)]++ })
	for w := range kindOf {
		each(5, []string{" ", "a", "1", ",", "\"", "\\", "x41", "-"}, func(s string) {
			got[hold(t, w+" "+s)]++
			got[hold(t, w+" a "+s)]++
		})
	}
	for _, e := range []api.Errno{ok, api.ErrLine, api.ErrNumber, api.ErrTooBig, api.ErrQuote} {
		if got[e] < 30 {
			t.Errorf("only %d were answered %v: %v", got[e], e, got)
		}
	}
}

// P25.1: each byte at each place of some lines.
func TestEachByte(t *testing.T) {
	for _, line := range []string{"field ab 12,3", "group gg 20", " next ", `data d "a \x41 b"`, "data d"} {
		for i := range line {
			for b := range 256 {
				hold(t, line[:i]+string([]byte{byte(b)})+line[i+1:])
				hold(t, line[:i]+string([]byte{byte(b)})+line[i:])
			}
			hold(t, line[:i])
			hold(t, line[i:])
		}
	}
}

// P25.1: spaces ahead of, between and behind the fields make no difference. (In these lines < stands for those outside, and _ for those between.)
func TestParseSpaces(t *testing.T) {
	for line, want := range map[string]api.Call{
		"<field_a_1,2<":     field("a", 1, 2),
		"<field_a<":         field("a"),
		"<group_g_3<":       group("g", 3),
		"<group_g<":         group("g", 0),
		"<next<":            next(),
		"<data_d_\"a  b\"<": data("d", "a  b"),
		"<data_d<":          data("d", ""),
	} {
		for outer := range 4 {
			for inner := range 4 {
				spaces := strings.NewReplacer("<", strings.Repeat(" ", outer), "_", strings.Repeat(" ", inner+1))
				means(t, spaces.Replace(line), want)
			}
		}
	}
}
