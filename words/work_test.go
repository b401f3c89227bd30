package words_test

import (
	"fmt"
	"runtime"
	"strings"
	"testing"

	"stencil/api"
	"stencil/value"
	"stencil/words"
)

// grownBy is how many bytes a call asks memory for.
func grownBy(do func()) uint64 {
	var was, now runtime.MemStats
	runtime.ReadMemStats(&was)
	do()
	runtime.ReadMemStats(&now)
	return now.TotalAlloc - was.TotalAlloc
}

// wantBack asks of a great text, which the second look would be slow with, that it is one that Print prints; it answers how many nodes it says.
func wantBack(t *testing.T, f api.Form, s string) int {
	t.Helper()
	m, e, at := words.Parse(f, s)
	if e != ok || at != 0 {
		t.Fatalf("P23.2: Parse(%s) = %v, %d", short(s), e, at)
	}
	if back, e := words.Print(f, m); e != ok || back != s {
		t.Fatalf("P23.3: Print of Parse(%s) = %s, %v", short(s), short(back), e)
	}
	return len(m)
}

// wantFault asks of a great text for its fault.
func wantFault(t *testing.T, f api.Form, s string, want api.Errno, place int) {
	t.Helper()
	if m, e, at := words.Parse(f, s); e != want || at != place || len(m) > 0 {
		t.Errorf("P23.2: Parse(%s) = %d nodes, %v, %d; want %v, %d", short(s), len(m), e, at, want, place)
	}
}

// P23.4: the work is about linear: many fields, constants, entries, groups and data.
func TestManyOfAll(t *testing.T) {
	var form, said, back strings.Builder
	const n = 20000
	for i := range n {
		fmt.Fprintf(&form, "f%d:uint8 ", i)
		fmt.Fprintf(&said, "f%d:%d ", i, i%200)
		fmt.Fprintf(&back, "f%d:%d ", n-1-i, (n-1-i)%200)
	}
	form.WriteString("g{32 x:uint8 ")
	for i := range n {
		fmt.Fprintf(&form, "k%d! ", i)
	}
	form.WriteString("h{8 } } d$8")
	const entries = 60000
	rest := "g:[" + strings.TrimSpace(strings.Repeat("{x:7 h:[]} ", entries)) + `] d:"d"}`
	f := made(t, form.String())
	text := "{" + said.String() + rest
	if got := wantBack(t, f, text); got != 1+n+1+3*entries+1 {
		t.Errorf("P23.2: %d nodes", got)
	}
	m, _, _ := words.Parse(f, text)
	other, e, _ := words.Parse(f, "{"+back.String()+rest)
	if e != ok || !value.Same(other, m) {
		t.Errorf("P23.3: the other way: %d nodes, %v", len(other), e)
	}
	wantFault(t, f, "{"+said.String()+back.String()+rest, api.ErrSyntax, 1+said.Len())
}

// P23.4: many groups and data in the row of a message, and names that are all but the same.
func TestManyMembers(t *testing.T) {
	const n = 15000
	var form, said strings.Builder
	name := strings.Repeat("n", 58)
	said.WriteString("{")
	for i := range n {
		fmt.Fprintf(&form, "%s%05d{8 x:uint8 } ", name, i)
		fmt.Fprintf(&said, "%s%05d:[{x:1} {x:null}] ", name, i)
	}
	for i := range n {
		fmt.Fprintf(&form, "d%d$8 ", i)
		fmt.Fprintf(&said, "d%d:\"%d\" ", i, i)
	}
	if got := wantBack(t, made(t, form.String()), strings.TrimSpace(said.String())+"}"); got != 1+5*n+n {
		t.Errorf("P23.2: %d nodes", got)
	}
}

// P23.4: a field of as many elements as a block has room for, and one of as many leaves.
func TestLongFields(t *testing.T) {
	f := made(t, "a:uint8*40000 c:char*20000")
	const n = 40000
	numbers := strings.TrimSuffix(strings.Repeat("7,", n), ",")
	wantBack(t, f, "{a:"+numbers+` c:"`+strings.Repeat("c", 20000)+`"}`)
	wantFault(t, f, "{a:"+numbers+",7}", api.ErrWords, 3+len(numbers))
	wantFault(t, f, "{a:"+numbers[:len(numbers)-2]+"}", api.ErrWords, 3+len(numbers)-2)
	wantFault(t, f, `{c:"`+strings.Repeat("c", 20001)+`"}`, api.ErrWords, 3)
	leaves := made(t, "a:("+strings.TrimSuffix(strings.Repeat("<uint8|A=7|B=6>,", n), ",")+")")
	wantBack(t, leaves, "{a:"+strings.TrimSuffix(strings.Repeat("A;B;", n/2), ";")+"}")
	wantFault(t, leaves, "{a:"+strings.Repeat("A;B;", n/2)+"A}", api.ErrWords, 3+2*n-1)
}

// P23.4: an enum of as many choices as its type has words, in an array's place of a group with many entries.
func TestManyChoicesAndEntries(t *testing.T) {
	var form, said strings.Builder
	form.WriteString("g{16 k:<uint16~0")
	for i := range 65535 {
		fmt.Fprintf(&form, "|c%d=%d", i+1, i+1)
	}
	form.WriteString("> }")
	said.WriteString("{g:[")
	for i := range 65534 {
		if i > 0 {
			said.WriteString(" ")
		}
		fmt.Fprintf(&said, "{k:c%d}", i+1)
	}
	said.WriteString("]}")
	wantBack(t, made(t, form.String()), said.String())
}

// P23.4: every element is a float whose text is as long as may be.
func TestManyFloats(t *testing.T) {
	f := made(t, "g{32 x:double*8 }")
	one := strings.TrimSuffix(strings.Repeat("-1.2345678901234568e-300,", 8), ",")
	const n = 2000
	wantBack(t, f, "{g:["+strings.TrimSpace(strings.Repeat("{x:"+one+"} ", n))+"]}")
	// A long number is no more work than its bytes.
	digits := strings.Repeat("1234567890", 100000)
	says(t, f, "{g:[{x:"+strings.Repeat("0."+digits+",", 7)+"1e-"+digits+"}]}", "{g:[{x:"+strings.Repeat("0.12345678901234568,", 7)+"0}]}")
	wantFault(t, f, "{g:[{x:"+digits+"}]}", api.ErrTooBig, 7)
	wantFault(t, f, "{g:[{x:"+digits+"x}]}", api.ErrNumber, 7+len(digits))
}

// P23.4: the longest message, nearly all of it one data, and one of parts that have a byte each.
func TestLongest(t *testing.T) {
	f := made(t, "d$32")
	const n = api.MaxMessage - 8 - 4
	wantBack(t, f, `{d:"`+strings.Repeat(`\xff`, n)+`"}`)
	wantFault(t, f, `{d:"`+strings.Repeat(`\xff`, n+1)+`"}`, api.ErrLong, 0)
	g := made(t, "g{16 a$8 b$8 c$8 d$8 e$8 f$8 }")
	const entries = 65534
	entry := `{a:"" b:"" c:"" d:"" e:"" f:""}`
	if got := wantBack(t, g, "{g:["+strings.TrimSpace(strings.Repeat(entry+" ", entries))+"]}"); got != 2+7*entries {
		t.Errorf("P23.2: %d nodes", got)
	}
}

// P23.4: texts with very many pieces that are refused.
func TestManyPieces(t *testing.T) {
	f := made(t, chapter)
	const n = 1 << 20
	for _, c := range []struct {
		s   string
		err api.Errno
		at  int
	}{
		{strings.Repeat("{", n), api.ErrSyntax, 1},
		{strings.Repeat("}", n), api.ErrSyntax, 0},
		{"{g:" + strings.Repeat("[", n), api.ErrSyntax, 4},
		{"{g:[" + strings.Repeat("{", n), api.ErrSyntax, 5},
		{"{g:[" + strings.Repeat("{g:[", n), api.ErrSyntax, 5},
		{"{g:[" + strings.Repeat("{}", n), api.ErrSyntax, 4 + 2*n},
		{"{g:[" + strings.Repeat("{}", n) + "] z", api.ErrSyntax, 6 + 2*n},
		{"{g:[" + strings.Repeat("{} ", n) + "]}", api.ErrEntries, 0},
		{"{g:[" + strings.Repeat("{x:1}", n) + "]}", api.ErrEntries, 0},
		{"{g:[" + strings.Repeat("{x:null}", n) + "] a:x}", api.ErrNumber, 8 + 8*n},
		{strings.Repeat(" ", n), api.ErrSyntax, n},
		{strings.Repeat("x", n), api.ErrSyntax, 0},
		{"{" + strings.Repeat("x", n), api.ErrSyntax, 1},
		{"{a:" + strings.Repeat("x", n), api.ErrNumber, 3},
		{"{a:" + strings.Repeat("0", n) + "x", api.ErrNumber, 3 + n},
		{"{k:" + strings.Repeat("Sell", n) + "}", api.ErrNumber, 3},
		{`{d:"` + strings.Repeat(`\x00`, n), api.ErrQuote, 4 + 4*n},
		{`{d:"` + strings.Repeat(`x`, n) + "\n", api.ErrQuote, 4 + n},
		{`{d:` + strings.Repeat(`""`, n), api.ErrSyntax, 5},
		{`{c:"` + strings.Repeat(`x`, n) + `"}`, api.ErrWords, 3},
		{"{b:" + strings.Repeat("1,", n) + "}", api.ErrWords, 6},
		{"{p:" + strings.Repeat("1;", n) + "}", api.ErrWords, 6},
		{"{}" + strings.Repeat(" ", n) + "x", api.ErrSyntax, n + 2},
		{"{}" + strings.Repeat(" {}", n), api.ErrSyntax, 3},
	} {
		wantFault(t, f, c.s, c.err, c.at)
	}
	wantBack(t, f, chapterText)
	says(t, f, strings.Repeat(" ", n)+"{"+strings.Repeat("\n", n)+"}"+strings.Repeat("\t", n), chapterNull)
	says(t, f, "{a:"+strings.Repeat("0", n)+"7}", strings.Replace(chapterNull, "a:null", "a:7", 1))
}

// P23.4: blocks as deep as may be, each with many entries.
func TestDeep(t *testing.T) {
	f := made(t, strings.Repeat("g{8 ", 8)+"x:uint8 "+strings.Repeat("} ", 8))
	s := "{x:1}"
	for range 8 {
		s = "{g:[" + strings.TrimSpace(strings.Repeat(s+" ", 3)) + "]}"
	}
	wantBack(t, f, s)
	deep := strings.Repeat("{g:[", 9)
	wantFault(t, f, deep, api.ErrSyntax, 8*4+1)
	s = "{}"
	for range 8 {
		s = "{g:[" + strings.Repeat(s, 5) + "]}"
	}
	wantFault(t, f, s, api.ErrEntries, 0)
}

// P23.4: a short text may say entries whose null words have no end; no more of them is made than value.Check looks at.
func TestEntriesOfMuch(t *testing.T) {
	entries := "g:[" + strings.Repeat("{}", 65000) + "]"
	for form, s := range map[string]string{
		"g{32 x:uint8*60000 }":                        "{" + entries + "}",
		"g{32 x:(uint8*30000,[uint8]) y:char*30000 }": "{" + entries + "}",
		"a{32 x:uint8 g{32 x:uint8*60000 } } d$8":     "{a:[{} {" + entries + "} {x:1 " + entries + `}] d:"x"}`,
	} {
		f := made(t, form)
		asked := grownBy(func() { wantFault(t, f, s, api.ErrLong, 0) })
		if asked > 100<<20 {
			t.Errorf("P23.4: %d bytes of memory were asked for", asked)
		}
		wantFault(t, f, s+"x", api.ErrSyntax, len(s))
	}
}

// P23.4: a form of many groups is no work for the words of their fields, where none has an entry.
func TestGroupsOfMuch(t *testing.T) {
	const n = 2000
	var form, said strings.Builder
	for i := range n {
		fmt.Fprintf(&form, "g%d{32 x:uint8*60000 } ", i)
		fmt.Fprintf(&said, " g%d:[]", i)
	}
	f := made(t, form.String())
	asked := grownBy(func() { wantBack(t, f, "{"+said.String()[1:]+"}") })
	if asked > 100<<20 {
		t.Errorf("P23.4: %d bytes of memory were asked for", asked)
	}
}
