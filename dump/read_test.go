package dump_test

import (
	long "math/big"
	"regexp"
	"slices"
	"strconv"
	"strings"
	"testing"

	"stencil/api"
	"stencil/dump"
	"stencil/look"
)

// readWants asks that Read refuses lines, and tells this one's number.
func readWants(t testing.TB, lines []string, number int) {
	t.Helper()
	if s, e, n := dump.Read(lines); s != "" || e != api.ErrSyntax || n != number {
		t.Errorf("P22.4: Read(%.300q) = %.99q, %v, %d; want ErrSyntax, %d", lines, s, e, n, number)
	}
}

// shape is that of a line: how great its numbers are isn't told by it.
var shape = regexp.MustCompile(strings.ReplaceAll(`\A(0|[1-9][0-9]*) (0|[1-9][0-9]*) (?:head|field|pad|dim|length|data) (-|STEP(?:\.STEP)*) ((?:[0-9a-f][0-9a-f])+)\z`, "STEP", `[A-Za-z_][0-9A-Za-z_]{0,63}(?:\[(?:0|[1-9][0-9]{0,4})\])?`))

// secondRead reads lines another way: by their shape, with numbers of any length.
func secondRead(lines []string) (string, api.Errno, int) {
	var all []byte
	for i, line := range lines {
		m := shape.FindStringSubmatch(line)
		if m == nil || !hasEntries(m[3]) {
			return "", api.ErrSyntax, i
		}
		from, _ := new(long.Int).SetString(m[1], 10)
		to, _ := new(long.Int).SetString(m[2], 10)
		if from.Cmp(long.NewInt(int64(len(all)))) != 0 || to.Sub(to, from).Cmp(long.NewInt(int64(len(m[4])/2))) != 0 {
			return "", api.ErrSyntax, i
		}
		for k := 0; k < len(m[4]); k += 2 {
			n, _ := strconv.ParseUint(m[4][k:k+2], 16, 8)
			all = append(all, byte(n))
		}
	}
	return string(all), api.OK, 0
}

// hasEntries tells whether all numbers of a path's text may be ones of entries.
func hasEntries(path string) bool {
	return !slices.ContainsFunc(steps(strings.TrimPrefix(path, "-")), func(s api.Step) bool { return s.Entry > 65535 })
}

// holdRead asks that Read answers as the second way. The error is answered.
func holdRead(t testing.TB, lines []string) api.Errno {
	t.Helper()
	given := slices.Clone(lines)
	s, e, n := dump.Read(lines)
	if want, err, number := secondRead(lines); s != want || e != err || n != number {
		t.Fatalf("P22.4: Read(%.300q) = %.99q, %v, %d; want %.99q, %v, %d", lines, s, e, n, want, err, number)
	}
	if !slices.Equal(lines, given) {
		t.Fatalf("P22.6: Read has changed the lines")
	}
	return e
}

// P22.4: of no lines there are no bytes.
func TestReadNothing(t *testing.T) {
	for _, lines := range [][]string{nil, {}} {
		if s, e, n := dump.Read(lines); s != "" || e != ok || n != 0 {
			t.Errorf("P22.4: Read(%q) = %q, %v, %d", lines, s, e, n)
		}
	}
}

// P22.4: lines that are ones, whatever a message might be: no form is asked for.
func TestReadAnyLines(t *testing.T) {
	for _, c := range []struct {
		want  string
		lines []string
	}{
		{"A", []string{"0 1 pad - 41"}},
		{"ABC", []string{"0 1 data a 41", "1 3 head g[2].b 4243"}},
		{"\x00\xff", []string{"0 1 dim g[65535] 00", "1 2 length _ ff"}},
		{"0123456789ABC", []string{"0 9 field a[0].b[10].c.d 303132333435363738", "9 10 field a 39", "10 13 head " + strings.Repeat("x", 64) + " 414243"}},
		{"\x0a", []string{"0 1 field head 0a"}},
	} {
		if s, e, n := dump.Read(c.lines); s != c.want || e != ok || n != 0 {
			t.Errorf("P22.4: Read(%q) = %q, %v, %d; want %q", c.lines, s, e, n, c.want)
		}
		holdRead(t, c.lines)
	}
}

// P22.4: every one of the six words may stand in a line, and no other.
func TestReadWords(t *testing.T) {
	for _, word := range kindNames {
		if s, e, n := dump.Read([]string{"0 1 " + word + " - 41"}); s != "A" || e != ok || n != 0 {
			t.Errorf("P22.4: the word %s: %q, %v, %d", word, s, e, n)
		}
		for _, other := range []string{strings.ToUpper(word), strings.ToUpper(word[:1]) + word[1:], word[1:], word[:len(word)-1], word + "s", word + "\x00", "\t" + word} {
			readWants(t, []string{"0 1 " + other + " - 41"}, 0)
		}
	}
	for _, other := range []string{"", "-", "0", "group", "message", "SpanHead", "headfield", "é"} {
		readWants(t, []string{"0 1 " + other + " - 41"}, 0)
	}
}

// P22.4: a line is just five pieces with one blank between each two.
func TestReadPieces(t *testing.T) {
	const line = "8 9 field a 09"
	pieces := strings.Split(line, " ")
	for i := range pieces {
		readLine(t, strings.Join(slices.Delete(slices.Clone(pieces), i, i+1), " "))
		readLine(t, strings.Join(slices.Insert(slices.Clone(pieces), i, pieces[i]), " "))
		emptied := slices.Clone(pieces)
		emptied[i] = ""
		readLine(t, strings.Join(emptied, " "))
		for _, blank := range []string{"  ", "\t", "\n", "\r", " \t", "", "_", "\u00a0"} {
			if i > 0 {
				readLine(t, strings.Join(pieces[:i], " ")+blank+strings.Join(pieces[i:], " "))
			}
		}
		for k := i + 1; k < len(pieces); k++ {
			other := slices.Clone(pieces)
			other[i], other[k] = other[k], other[i]
			readLine(t, strings.Join(other, " "))
		}
	}
	for _, other := range []string{"", " ", "    ", " " + line, line + " ", line + "\n", line + "\x00", line + " 09", line + " # a byte", line + ",", "8 9 field a 09 9 10 field b 0a"} {
		readLine(t, other)
	}
}

// readLine asks that a line is none in the place of the sample's second.
func readLine(t testing.TB, line string) {
	t.Helper()
	lines := slices.Clone(sampleLines)
	lines[1] = line
	readWants(t, lines, 1)
	holdRead(t, lines)
}

// P22.4: numbers have no sign and no zero at the front, and tell where the line ahead ended, and how many bytes there are.
func TestReadNumbers(t *testing.T) {
	for _, line := range []string{
		"+8 9 field a 09", "-8 9 field a 09", "08 9 field a 09", "008 9 field a 09", "8 09 field a 09", "8 +9 field a 09", "8 -9 field a 09",
		"7 9 field a 09", "9 9 field a 09", "9 10 field a 09", "0 1 field a 09", "0 9 field a 09", "7 8 field a 09", "8 10 field a 09", "8 7 field a 09", "8 8 field a 09", "8 8 field a ", "8 8 field a", "9 8 field a 09",
		"8.0 9 field a 09", "8 9.0 field a 09", "0x8 9 field a 09", "8 0x9 field a 09", "8 9_0 field a 09", "8e0 9 field a 09", "a 9 field a 09", "8 b field a 09", "٨ 9 field a 09", "8 ٩ field a 09",
		"18446744073709551624 9 field a 09", "8 18446744073709551625 field a 09", "4294967304 9 field a 09", "8 4294967305 field a 09", "8 99999999999999999999999999 field a 09", "-18446744073709551608 9 field a 09", "18446744073709551624 18446744073709551625 field a 09",
	} {
		readLine(t, line)
	}
	for _, line := range []string{"1 2 pad - 41", "00 1 pad - 41", "+0 1 pad - 41", "-0 1 pad - 41", "0 0 pad - ", "0 0 pad -", " 1 pad - 41", "8 9 pad - 41", "0 01 pad - 41", "0 -1 pad - 41", "18446744073709551616 18446744073709551617 pad - 41"} {
		readWants(t, []string{line}, 0)
		holdRead(t, []string{line})
	}
}

// P22.4: a path is -, or a text that says one.
func TestReadPaths(t *testing.T) {
	for _, path := range []string{"", "--", "-a", "a-", "-.a", "a.-", ".", ".a", "a.", "a..b", "a[", "a[]", "a[0", "a]", "a[01]", "a[00]", "a[-1]", "a[+1]", "a[65536]", "a[99999999999999999999]", "a[0][1]", "a[0]b", "[0]", "1a", "é", "a[x]", "a[0x1]", strings.Repeat("x", 65), "a." + strings.Repeat("x", 65), "a\x00", "a/b", `"a"`, "a[ 0]"} {
		readLine(t, "8 9 field "+path+" 09")
	}
	for _, path := range []string{"-", "a", "_", "Z9_", "a[0]", "a[65535]", "a.b", "a[3].b[0].c", "a[0].b[1]", strings.Repeat("x", 64), strings.Repeat("ab[65535].", 50) + "z"} {
		lines := slices.Clone(sampleLines)
		lines[1] = "8 9 field " + path + " 09"
		if s, e, n := dump.Read(lines); s != sample || e != ok || n != 0 {
			t.Errorf("P22.4: with the path %q: %q, %v, %d", path, s, e, n)
		}
		if p, e, _ := look.Path(strings.TrimPrefix(path, "-")); e != ok {
			t.Errorf("P21.4: the path %q: %v, %v", path, p, e)
		}
	}
}

// P22.4: the bytes are small hex digits, two of each, as many as the numbers say.
func TestReadHex(t *testing.T) {
	for _, digits := range []string{"", "f", "fef", "fe", "feffe", "feff0", "feff00", "FEFF", "feFF", "Feff", "fe ff", "fe_ff", "feg0", "gfff", "0xfeff", "fe\xff", "feff\n", "-fe", "\\xfe", "ｆｅ"} {
		lines := slices.Clone(sampleLines)
		lines[2] = "9 11 field b " + digits
		readWants(t, lines, 2)
		holdRead(t, lines)
	}
}

// P22.4: the first line that isn't one is told, whatever stands behind it, and the lines ahead give nothing.
func TestReadFirstFault(t *testing.T) {
	for i := range sampleLines {
		lines := slices.Clone(sampleLines)
		lines[i] += "0"
		readWants(t, lines, i)
		for k := i + 1; k < len(lines); k++ {
			twice := slices.Clone(lines)
			twice[k] = ""
			readWants(t, twice, i)
		}
	}
}

// P22.4: lines too few, too many, and in another order.
func TestReadOtherLines(t *testing.T) {
	for i := range sampleLines {
		// What is at the front may stand alone.
		if s, e, n := dump.Read(sampleLines[:i]); e != ok || n != 0 || !strings.HasPrefix(sample, s) || len(s) != []int{0, 8, 9, 11, 14, 15, 16}[i] {
			t.Errorf("P22.4: the first %d lines: %q, %v, %d", i, s, e, n)
		}
		if i < len(sampleLines)-1 {
			readWants(t, slices.Delete(slices.Clone(sampleLines), i, i+1), i)
		}
		readWants(t, slices.Insert(slices.Clone(sampleLines), i, sampleLines[i]), i+1)
		readWants(t, slices.Insert(slices.Clone(sampleLines), i, ""), i)
		for k := i + 1; k < len(sampleLines); k++ {
			lines := slices.Clone(sampleLines)
			lines[i], lines[k] = lines[k], lines[i]
			readWants(t, lines, i)
		}
	}
	readWants(t, append(slices.Clone(sampleLines), sampleLines...), len(sampleLines))
	readWants(t, append(slices.Clone(sampleLines), ""), len(sampleLines))
	more := append(slices.Clone(sampleLines), "18 19 pad - 3f")
	if s, e, n := dump.Read(more); s != sample+"?" || e != ok || n != 0 {
		t.Errorf("P22.4: with a line more: %q, %v, %d", s, e, n)
	}
}

// P22.4: lines with something otherwise by chance.
func TestRandomRead(t *testing.T) {
	taken, refused := 0, 0
	for seed := range int64(4000) {
		r := newDice(seed)
		lines := slices.Clone(sampleLines[:1+r.Intn(len(sampleLines))])
		for range 1 + r.Intn(2) {
			i := r.Intn(len(lines))
			lines[i] = r.otherLine(lines[i])
		}
		if holdRead(t, lines) == ok {
			taken++
		} else {
			refused++
		}
	}
	if taken < 300 || refused < 1000 {
		t.Errorf("only %d were taken, and %d refused", taken, refused)
	}
}

// otherLine is a line with a byte otherwise, gone, or more, or with a piece that may stand there as well.
func (r dice) otherLine(line string) string {
	if len(line) == 0 {
		return "0"
	}
	i := r.Intn(len(line))
	c := string(" 0129afAF-.[]_+xG\x00"[r.Intn(17)])
	pieces := strings.Split(line, " ")
	switch r.Intn(6) {
	case 0:
		return line[:i] + line[i+1:]
	case 1:
		return line[:i] + c + line[i:]
	case 2:
		return line[:i] + c + line[i+1:]
	case 3:
		if len(pieces) == 5 {
			pieces[2] = pick(r, kindNames...)
		}
	case 4:
		if len(pieces) == 5 {
			pieces[3] = pick(r, "-", "a", "a.b", "a[7]", "g[0].h[1].x", "", "a[08]")
		}
	case 5:
		if last := len(pieces) - 1; len(pieces[last]) > 0 {
			pieces[last] = strings.Repeat(pick(r, "0", "f", "7"), len(pieces[last]))
		}
	}
	return strings.Join(pieces, " ")
}
