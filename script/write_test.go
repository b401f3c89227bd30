package script_test

import (
	"math"
	"regexp"
	"slices"
	"strconv"
	"strings"
	"testing"

	"stencil/api"
	"stencil/script"
)

// all is a script with calls of all kinds for the parts of grown, allTold what the encoder tells of it, and allBytes what it makes of bytes 255.
const (
	all = `field a 7
field p 0xFFFFFFFFFFFFFFFE,5
field c 97,98,0
field f 0x3FF0000000000000
group g 2
next
field x 1
group h 1
next
field a 5
data e "z"
next
group h
data e
group i
data d "hi"
data n "x y"
`
	allTold  = "ok 28\nok 28\nok 28\nok 28\nok 28\nok 31\nok 32\nok 32\nok 38\nok 46\nok 46\nok 48\nok 49\nok 55\nok 56\nok 59\nok 62\nok 69\ndone"
	allBytes = "\x14\x00\x03\x00\x07\x00\x02\x00" + "\x07" + "\xfe\xff\xff\xff\x05\x00\x00\x00" + "ab\x00" + "\x00\x00\x00\x00\x00\x00\xf0\x3f" +
		"\x01\x00\x02" + "\x01" + "\x08\x00\x01\x00\x00\x00" + "\x05\x00\x00\x00\x00\x00\x00\x00" + "\x01z" +
		"\xff" + "\x08\x00\x00\x00\x00\x00" + "\x00" + "\x01\x00\x00" + "\x02hi" + "\x03\x00\x00\x00x y"
)

// moved are the lines that an encoder tells, each place so much greater.
func moved(lines string, by int) string {
	return regexp.MustCompile(`[0-9]+`).ReplaceAllStringFunc(lines, func(s string) string {
		n, _ := strconv.Atoi(s)
		return strconv.Itoa(n + by)
	})
}

// P25.4: calls of all kinds; only the message's bytes are written.
func TestWriteAll(t *testing.T) {
	f := little(t, 2, grown)
	if b := writes(t, f, 69, 0, all, allTold); b != allBytes {
		t.Errorf("P25.4: the bytes are %x", b)
	}
	if b := writes(t, f, 80, 3, all, moved(allTold, 3)); b != "\xff\xff\xff"+allBytes+strings.Repeat("\xff", 8) {
		t.Errorf("P25.4: the bytes are %x", b)
	}
}

// P25.4: where no message is begun, that is all that is told, and the buffer stays.
func TestWriteRefused(t *testing.T) {
	f := little(t, 2, grown)
	none := f
	none.Tokens = slices.Clone(f.Tokens)
	none.Tokens[0].Pair = 0
	for _, s := range []string{"", "\n", all, "jump", "# x", strings.Repeat("next\n", 20001)} {
		for _, x := range []struct {
			f        api.Form
			size, at int
			want     string
		}{
			{f, 27, 0, "! E11"}, {f, 0, 0, "! E11"}, {f, 30, 3, "! E11"}, {f, 30, 30, "! E11"},
			{f, 30, 31, "! E170"}, {f, 30, -1, "! E170"}, {f, 0, 1, "! E170"}, {f, 30, math.MinInt, "! E170"}, {f, 30, math.MaxInt, "! E170"},
			{none, 30, 0, "! E121"}, {none, 30, -1, "! E121"}, {none, 0, 0, "! E121"}, {api.Form{}, 30, 0, "! E121"},
		} {
			if b := writes(t, x.f, x.size, x.at, s, x.want); strings.Trim(b, "\xff") != "" {
				t.Errorf("P25.4: %s: the buffer is %x", x.want, b)
			}
		}
	}
	told(t, "P25.4: no buffer", script.Write(f, nil, 0, all), "! E11")
}

// P25.4: a script without a call; the last line tells whether the message may end.
func TestWriteNothing(t *testing.T) {
	for parts, last := range map[string]string{chapter: "open", `<field name="a" id="1" type="uint8"/>`: "done", `<field name="a" id="1" type="uint8"/><group name="g" id="2"/>`: "open"} {
		f := little(t, 1, parts)
		for _, s := range []string{"", "\n", "\n\n\n", " ", "\t\r \n \n", "#", "# field a 7", " \t\r# next\n#\n\n   #x", "#\n"} {
			b := writes(t, f, 12, 2, s, "ok 11\n"+last)
			if b[10] != 255 || b[11] != 255 {
				t.Errorf("P25.4: %s: the buffer is %x", short(s), b)
			}
		}
	}
}

// P25.4: lines lie between bytes 10, whatever else they have.
func TestWriteLines(t *testing.T) {
	f := little(t, 1, `<field name="a" id="1" type="uint8"/><group name="g" id="2"/><data name="d" id="3" type="short"/>`)
	for s, want := range map[string]string{
		"field a 1":                           "ok 9\nok 9\nopen",
		"field a 1\n":                         "ok 9\nok 9\nopen",
		"field a 1\n\n":                       "ok 9\nok 9\nopen",
		"\n\nfield a 1":                       "ok 9\nok 9\nopen",
		"  field a 1  \n  # x\ngroup g\n":     "ok 9\nok 9\nok 12\nopen",
		"field a 1\ngroup g\ndata d \"a\"":    "ok 9\nok 9\nok 12\nok 14\ndone",
		"group g\r\ngroup g 1\r\n":            "ok 9\n! E250\n! E30\nopen",
		"group g \r\n":                        "ok 9\n! E30\nopen",
		"\tgroup g\n":                         "ok 9\n! E250\nopen",
		"group g\n\tdata d":                   "ok 9\nok 12\n! E250\nopen",
		"group g\ndata d \"a\nb\"":            "ok 9\nok 12\n! E23\n! E250\nopen",
		"group g\ndata d \"a\\nb\"":           "ok 9\nok 12\nok 16\ndone",
		"group g # the first":                 "ok 9\n! E30\nopen",
		"group g 0 # the first":               "ok 9\n! E250\nopen",
		"group g\ndata d \"#\"":               "ok 9\nok 12\nok 14\ndone",
		"field a 1\x00\n\x00\n\v\n\f\n\u00a0": "ok 9\n! E30\n! E250\n! E250\n! E250\n! E250\nopen",
		"group g\vgroup g\rgroup g":           "ok 9\n! E250\nopen",
		"\x00# x\n\v# x\nx# x\n\"# x":         "ok 9\n! E250\n! E250\n! E250\n! E250\nopen",
	} {
		writes(t, f, 20, 0, s, want)
	}
}

// P25.4: a line that is refused, by Parse or by the encoder, is told by its error and changes nothing: the others do what they do without it.
func TestWriteRefusedLines(t *testing.T) {
	f := little(t, 1, `<field name="a" id="1" type="uint8"/><field name="m" id="2" type="many"/><group name="g" id="3"><field name="x" id="4" type="int8"/></group><data name="d" id="5" type="short"/>`)
	good := []string{"field a 7", "group g 1", "next", "field x 5", `data d "12"`}
	stands := []string{"ok 60009", "ok 60009", "ok 60012", "ok 60013", "ok 60013", "ok 60016"}
	long := strings.Repeat("x", 255)
	many := strings.Repeat("9,", 29999)
	whole := writes(t, f, 60018, 0, strings.Join(good, "\n"), strings.Join(stands, "\n")+"\ndone")
	for at, bad := range [][][2]string{
		{{"field m " + many, "! E30"}, {"field m " + many + "9,9", "! E161"}, {"field m " + many + "70000", "! E162"}, {"field a", "! E161"}, {"field a 1,2", "! E161"}, {"field a 256", "! E162"}, {"field x 1", "! E140"}, {"next", "! E140"}, {"data d", "! E140"}, {"group no", "! E140"}, {"group g 255", "! E141"}},
		{{"group g 4294967295", "! E141"}, {"group g 4294967296", "! E31"}, {"field no 1", "! E140"}, {"field a -1", "! E31"}, {"group d 1", "! E140"}, {"data g", "! E140"}},
		{{"field a 8", "! E140"}, {"field x 1", "! E140"}, {"group g 1", "! E140"}, {"data d", "! E140"}},
		{{"next", "! E140"}, {"field a 8", "! E140"}, {"field x 300", "! E162"}, {"field x 18446744073709551488,1", "! E161"}},
		{{"field x 18446744073709551487", "! E162"}, {"next", "! E140"}, {"data d \"" + long + "\"", "! E164"}, {`data d "12345"`, "! E11"}, {"data no", "! E140"}},
		{{"next", "! E140"}, {"data d", "! E140"}, {"group g", "! E140"}, {"field x 1", "! E140"}, {"field a 1", "! E140"}},
	} {
		bad = append(bad, [][2]string{{"jump", "! E250"}, {"field", "! E250"}, {"field 1", "! E250"}, {"field a 1 2", "! E250"}, {"field a x", "! E30"}, {"data d x", "! E23"}, {"group g x", "! E30"}, {"next x", "! E250"}}...)
		for _, x := range bad {
			s := strings.Join(slices.Insert(slices.Clone(good), at, x[0]), "\n")
			want := strings.Join(slices.Insert(slices.Clone(stands), at+1, x[1]), "\n") + "\ndone"
			if b := writes(t, f, 60018, 0, s, want); b != whole {
				t.Errorf("P25.4: with %s the bytes are others", short(x[0]))
			}
		}
	}
}

// P25.4: a buffer that ends amid the message: what has no room is refused, and what is smaller goes on.
func TestWriteShort(t *testing.T) {
	f := little(t, 1, `<field name="a" id="1" type="uint8"/><group name="g" id="2"><field name="x" id="3" type="int16"/></group><data name="d" id="4" type="short"/>`)
	lines := "field a 1\ngroup g 1\nnext\nfield x 2\ndata d \"abc\"\ndata d \"a\"\ndata d"
	for size, want := range map[int]string{
		9:  "ok 9\nok 9\n! E11\n! E140\n! E140\n! E140\n! E140\n! E140\nopen",
		11: "ok 9\nok 9\n! E11\n! E140\n! E140\n! E140\n! E140\n! E140\nopen",
		12: "ok 9\nok 9\nok 12\n! E11\n! E140\n! E140\n! E140\n! E140\nopen",
		13: "ok 9\nok 9\nok 12\n! E11\n! E140\n! E140\n! E140\n! E140\nopen",
		14: "ok 9\nok 9\nok 12\nok 14\nok 14\n! E11\n! E11\n! E11\nopen",
		15: "ok 9\nok 9\nok 12\nok 14\nok 14\n! E11\n! E11\nok 15\ndone",
		16: "ok 9\nok 9\nok 12\nok 14\nok 14\n! E11\nok 16\n! E140\ndone",
		18: "ok 9\nok 9\nok 12\nok 14\nok 14\nok 18\n! E140\n! E140\ndone",
	} {
		writes(t, f, size, 0, lines, want)
	}
}

// P25.4: what isn't set stays as the buffer had it, and the header's bytes go by the form's order.
func TestWriteOrder(t *testing.T) {
	parts := `<field name="a" id="1" type="uint16"/><field name="b" id="2" type="uint16"/>`
	if b := writes(t, little(t, 1, parts), 14, 1, "field b 258", "ok 13\nok 13\ndone"); b != "\xff\x04\x00\x03\x00\x07\x00\x01\x00\xff\xff\x02\x01\xff" {
		t.Errorf("P25.4: the bytes are %x", b)
	}
	if b := writes(t, made(t, 1, "bigEndian", parts), 14, 1, "field b 258", "ok 13\nok 13\ndone"); b != "\xff\x00\x04\x00\x03\x00\x07\x00\x01\xff\xff\x01\x02\xff" {
		t.Errorf("P25.4: the bytes are %x", b)
	}
}
