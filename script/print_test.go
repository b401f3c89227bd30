package script_test

import (
	"math"
	"strings"
	"testing"

	"stencil/api"
	"stencil/script"
)

// P25.2: the line of each kind of calls.
func TestPrintLines(t *testing.T) {
	long := strings.Repeat("n", 64)
	for _, x := range []struct {
		c    api.Call
		want string
	}{
		{field("a"), "field a"}, {api.Call{Name: "a", Words: []uint64{}}, "field a"}, {field("_", 0), "field _ 0"}, {field(long, math.MaxUint64, 0, 1), "field " + long + " 18446744073709551615,0,1"}, {field("field", 10), "field field 10"},
		{group("g", 0), "group g 0"}, {group("next", 1), "group next 1"}, {group("g", 65537), "group g 65537"}, {group("g", math.MaxUint32), "group g 4294967295"},
		{next(), "next"},
		{data("d", ""), `data d ""`}, {data(long, " a  b "), "data " + long + ` " a  b "`}, {data("d", "\"\\\n\r\t\x00\x7f\xff é"), `data d "\"\\\n\r\t\x00\x7f\xff \xc3\xa9"`},
	} {
		prints(t, x.c, x.want)
		means(t, x.want, x.c)
	}
}

// P25.2: a Kind that is none.
func TestPrintKinds(t *testing.T) {
	for _, k := range []api.CallKind{math.MinInt, -2, -1, 4, 5, 9, 256, 1 << 32, math.MaxInt} {
		noLine(t, api.Call{Kind: k})
		noLine(t, api.Call{Kind: k, Name: "a"})
	}
}

// P25.2: a name that is none, whatever else there is.
func TestPrintNames(t *testing.T) {
	for _, name := range []string{"", "1", "a b", " a", "a ", "a-b", "a.b", "é", "\"", "#", "a\n", "\x00", strings.Repeat("n", 65)} {
		noLine(t, field(name))
		noLine(t, field(name, 1))
		noLine(t, group(name, 1))
		noLine(t, data(name, "x"))
		if name != "" {
			noLine(t, api.Call{Kind: api.CallNext, Name: name})
		}
	}
	for _, name := range []string{"a", "next", "_"} {
		noLine(t, api.Call{Kind: api.CallNext, Name: name})
	}
}

// P25.2: what a call of the Kind doesn't have, and counts that are none.
func TestPrintTooMuch(t *testing.T) {
	words := []uint64{0}
	for _, n := range []int{math.MinInt, math.MinInt32, -1, 1, 254, math.MaxUint32, math.MaxUint32 + 1, math.MaxInt} {
		noLine(t, api.Call{Name: "a", Count: n})
		noLine(t, api.Call{Name: "a", Words: words, Count: n})
		noLine(t, api.Call{Kind: api.CallNext, Count: n})
		noLine(t, api.Call{Kind: api.CallData, Name: "a", Count: n})
	}
	for _, n := range []int{math.MinInt, math.MinInt32, -2, -1, math.MaxUint32 + 1, 1 << 33, 1<<40 + 1, math.MaxInt} {
		noLine(t, group("g", n))
	}
	for _, s := range []string{" ", "x", "\x00"} {
		noLine(t, api.Call{Name: "a", Text: s})
		noLine(t, api.Call{Kind: api.CallGroup, Name: "a", Text: s})
		noLine(t, api.Call{Kind: api.CallNext, Text: s})
	}
	for _, w := range [][]uint64{{0}, {1, 2}, make([]uint64, 70000)} {
		noLine(t, api.Call{Kind: api.CallGroup, Name: "a", Words: w})
		noLine(t, api.Call{Kind: api.CallNext, Words: w})
		noLine(t, api.Call{Kind: api.CallData, Name: "a", Words: w})
	}
	for k := range api.CallKind(4) {
		noLine(t, api.Call{Kind: k, Name: "a", Words: words, Count: 1, Text: "x"})
	}
}

// P25.2: calls of all kinds with all that they may have, and may not: just those have a line for which it is read as them.
func TestPrintAll(t *testing.T) {
	lines := 0
	for k := api.CallKind(-1); k < 6; k++ {
		for _, name := range []string{"", "a", "next", "1", "a b"} {
			for _, w := range [][]uint64{nil, {}, {7}, {7, math.MaxUint64}} {
				for _, n := range []int{-1, 0, 1, math.MaxUint32, math.MaxUint32 + 1} {
					for _, s := range []string{"", "x", "x y\n"} {
						c := api.Call{Kind: k, Name: name, Words: w, Count: n, Text: s}
						line, e := script.Print(c)
						if e != ok {
							noLine(t, c)
							continue
						}
						lines++
						means(t, line, c)
					}
				}
			}
		}
	}
	// Of field a name (two) and words (four lists); of group a name and three counts; of next two lists, empty ones, and so everywhere else; of data a name and three texts.
	if want := 2*4 + 2*3*2 + 2 + 2*3*2; lines != want {
		t.Errorf("P25.2: %d calls have a line, not %d", lines, want)
	}
}

// P25.2: what is printed of what was read means the same, and is printed as itself.
func TestPrintOfParse(t *testing.T) {
	for line, want := range map[string]string{
		"  field   a  0x10,+007,-0 ": "field a 16,7,0",
		"field a  ":                  "field a",
		"group g":                    "group g 0",
		" group g 0004":              "group g 4",
		"   next ":                   "next",
		"data d":                     `data d ""`,
		`data  d  "\x41\x0a b" `:     `data d "A\n b"`,
		"data d \"\xff\"":            `data d "\xff"`,
	} {
		c, e, _ := script.Parse(line)
		if e != ok {
			t.Fatalf("Parse(%s) = %v", short(line), e)
		}
		prints(t, c, want)
		means(t, want, c)
	}
}
