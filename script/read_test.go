package script_test

import (
	"math"
	"slices"
	"strings"
	"testing"

	"stencil/api"
	"stencil/script"
)

// P25.5: calls of all kinds, as a reader of each version sees them; what a call has but its name isn't looked at.
func TestReadAll(t *testing.T) {
	f := little(t, 2, grown)
	const (
		block = "ok 2\n= 7\n= 18446744073709551614,5\n= 97,98,0\n"
		rest  = "= 2\nok\n= 1\n= 1\nok\n= 5\n= \"z\"\nok\n= 0\n= \"\"\n"
	)
	for reader, want := range []string{
		block + "! E140\n" + rest + "! E140\n! E140\n! E140\ndone",
		block + "= 4607182418800017408\n" + rest + "= 0\n= \"hi\"\n! E140\ndone",
		block + "= 4607182418800017408\n" + rest + "= 0\n= \"hi\"\n= \"x y\"\ndone",
	} {
		reads(t, f, reader, allBytes, 0, all, want)
		reads(t, f, reader, "\x01\x02\x03"+allBytes+"behind", 3, all, want)
		reads(t, f, reader, allBytes, 0, strings.NewReplacer("0xFFFFFFFFFFFFFFFE,5", "", "field a 7", "field a 1,2,3", "g 2", "g 4294967295", `"z"`, `"other"`).Replace(all), want)
	}
	reads(t, f, 2, allBytes, 0, "field f\nfield f\nfield a\ngroup g\nfield f\nnext", "ok 2\n= 4607182418800017408\n= 4607182418800017408\n= 7\n= 2\n! E140\nok\nopen")
}

// P25.5: bytes of an older version: what they don't have is null, empty and "", and the acting version is told.
func TestReadOlder(t *testing.T) {
	f, old := little(t, 2, grown), little(t, 0, `<field name="a" id="1" type="uint8"/><field name="p" id="2" type="pair"/><field name="c" id="3" type="chars"/><group name="g" id="5"><field name="x" id="6" type="uint8"/><group name="h" id="7" dimensionType="wide"><field name="a" id="8" type="int64"/></group><data name="e" id="9" type="short"/></group>`)
	b := written(t, old, "field a 7", "field c 120,121,122", "group g 1", "next", "group h", `data e "\xff \""`)
	const lines = "field f\nfield a\nfield c\ngroup g\nnext\ngroup h\ndata e\ngroup i\nnext\ndata d\ndata n"
	for reader, want := range []string{
		"ok 0\n! E140\n= 7\n= 120,121,122\n= 1\nok\n= 0\n= \"\\xff \\\"\"\n! E140\n! E140\n! E140\n! E140\ndone",
		"ok 0\n= 9221120237041090560\n= 7\n= 120,121,122\n= 1\nok\n= 0\n= \"\\xff \\\"\"\n= 0\n! E140\n= \"\"\n! E140\ndone",
		"ok 0\n= 9221120237041090560\n= 7\n= 120,121,122\n= 1\nok\n= 0\n= \"\\xff \\\"\"\n= 0\n! E140\n= \"\"\n= \"\"\ndone",
	} {
		reads(t, f, reader, b, 0, lines, want)
	}
}

// P25.5: where no message is begun, that is all that is told.
func TestReadRefused(t *testing.T) {
	f := little(t, 2, grown)
	none := f
	none.Tokens = slices.Clone(f.Tokens)
	none.Tokens[0].Pair = 0
	with := func(at int, b byte) string { return allBytes[:at] + string([]byte{b}) + allBytes[at+1:] }
	for _, s := range []string{"", "\n", all, "jump", "# x", strings.Repeat("next\n", 20001)} {
		for _, x := range []struct {
			f      api.Form
			reader int
			bytes  string
			at     int
			want   string
		}{
			{none, 2, allBytes, 0, "! E121"}, {none, 3, allBytes, -1, "! E121"}, {none, -1, "", 0, "! E121"}, {api.Form{}, 0, allBytes, 0, "! E121"},
			{f, 3, allBytes, 0, "! E130"}, {f, -1, allBytes, 0, "! E130"}, {f, math.MinInt, "", 7, "! E130"}, {f, math.MaxInt, allBytes, -1, "! E130"},
			{f, 2, allBytes, -1, "! E170"}, {f, 2, allBytes, 70, "! E170"}, {f, 2, allBytes, math.MaxInt, "! E170"}, {f, 0, "", 1, "! E170"},
			{f, 2, "", 0, "! E11"}, {f, 2, allBytes, 69, "! E11"}, {f, 2, allBytes[:7], 0, "! E11"}, {f, 2, allBytes[:27], 0, "! E11"},
			{f, 2, with(4, 8), 0, "! E191"}, {f, 2, with(2, 4), 0, "! E190"}, {f, 2, with(6, 3), 0, "! E192"}, {f, 2, with(0, 19), 0, "! E193"},
		} {
			reads(t, x.f, x.reader, x.bytes, x.at, s, x.want)
		}
	}
	told(t, "P25.5: no buffer", script.Read(f, 2, nil, 0, all), "! E11")
}

// P25.5: lines that are passed over, and lines that are refused: by Parse, by the order, and by what the bytes tell. They change nothing.
func TestReadLines(t *testing.T) {
	f := little(t, 1, `<field name="a" id="1" type="uint8"/><group name="g" id="2"><field name="x" id="3" type="int16"/></group><data name="d" id="4" type="short"/>`)
	b := written(t, f, "field a 7", "group g 1", "next", "field x 18446744073709551615", `data d "abc"`)
	const good = "field a\ngroup g\nnext\nfield x\ndata d"
	const goodTold = "ok 1\n= 7\n= 1\nok\n= 18446744073709551615\n= \"abc\"\ndone"
	reads(t, f, 1, b, 0, good, goodTold)
	reads(t, f, 1, b, 0, good+"\n", goodTold)
	reads(t, f, 1, b, 0, "\n\t\r\n # field a\n"+strings.ReplaceAll(good, "\n", "\n\n#\n  ")+"\n \n\r# x", goodTold)
	reads(t, f, 1, b, 0, "", "ok 1\nopen")
	reads(t, f, 1, b, 0, "\r\n#", "ok 1\nopen")
	for line, err := range map[string]string{"jump": "! E250", "field a 1 2": "! E250", "field a x": "! E30", "group g 4294967296": "! E31", "data d x": "! E23", "field no": "! E140", "group no 1": "! E140", "data no": "! E140", "field g": "! E140", "next\r": "! E250"} {
		lines, want := strings.Split(good, "\n"), strings.Split(goodTold, "\n")
		for at := range len(lines) + 1 {
			reads(t, f, 1, b, 0, strings.Join(slices.Insert(slices.Clone(lines), at, line), "\n"), strings.Join(slices.Insert(slices.Clone(want), at+1, err), "\n"))
		}
	}
	// The bytes end too early; the block of x is too short for it; the count is null; the data's length is.
	reads(t, f, 1, b[:17], 0, good+"\ndata d", "ok 1\n= 7\n= 1\nok\n= 18446744073709551615\n! E11\n! E11\nopen")
	reads(t, f, 1, b[:9]+"\x01"+b[10:], 0, good, "ok 1\n= 7\n! E193\n! E140\n! E140\n! E140\nopen")
	reads(t, f, 1, b[:11]+"\xff"+b[12:], 0, good, "ok 1\n= 7\n! E141\n! E140\n! E140\n! E140\nopen")
	reads(t, f, 1, b[:14]+"\xff"+b[15:], 0, good, "ok 1\n= 7\n= 1\nok\n= 18446744073709551615\n! E164\nopen")
	reads(t, f, 1, b[:14]+"\x04"+b[15:], 0, good, "ok 1\n= 7\n= 1\nok\n= 18446744073709551615\n! E11\nopen")
}
