package dump_test

import (
	"fmt"
	"runtime"
	"slices"
	"strings"
	"testing"

	"stencil/api"
	"stencil/codec"
	"stencil/dump"
)

// wantWhole asks all of great bytes, which the second look would be slow with: so many spans, which cover the message, the last of which is this one. It answers the spans.
func wantWhole(t *testing.T, f api.Form, b []byte, n int, last string) []api.Span {
	t.Helper()
	spans, e := dump.Spans(f, b, 0)
	if e != ok || len(spans) != n {
		t.Fatalf("P22.1: %d spans, %v; want %d", len(spans), e, n)
	}
	end := 0
	for _, s := range spans {
		if s.From != end || s.To <= s.From {
			t.Fatalf("P22.5: a span from %d to %d behind %d", s.From, s.To, end)
		}
		end = s.To
	}
	if size, e := codec.Length(f, b, 0); e != ok || end != size {
		t.Errorf("P22.5: the spans cover %d bytes, the message has %d, %v", end, size, e)
	}
	if got := told(spans[n-1:]); got != last {
		t.Errorf("P22.1: the last span is %s, not %s", got, last)
	}
	if !sameSpans(each(f, b, 0), spans) {
		t.Error("P22.2: Each gives others than Spans")
	}
	lines, e := dump.Lines(f, b, 0)
	if e != ok || !slices.Equal(lines, linesOf(spans, b, 0)) {
		t.Errorf("P22.3: %d lines, %v", len(lines), e)
	}
	if s, e, k := dump.Read(lines); s != string(b[:end]) || e != ok || k != 0 {
		t.Errorf("P22.4: %d bytes, %v, %d", len(s), e, k)
	}
	return spans
}

// P22.6: the work is about linear: of many fields, constants and entries each call ends soon.
func TestManyOfAll(t *testing.T) {
	var form, said strings.Builder
	said.WriteString("M")
	for i := range 20000 {
		fmt.Fprintf(&form, "f%d:uint8 ", i)
		fmt.Fprintf(&said, " f%d=%d", i, i%200)
	}
	// Constants in an entry are no work for each of the entries.
	form.WriteString("g{32 x:uint8 ")
	for i := range 20000 {
		fmt.Fprintf(&form, "k%d! ", i)
	}
	form.WriteString("h{8 } } d$8")
	const n = 60000
	said.WriteString(" g{" + strings.Repeat(" - x=7 h{ }", n) + " } d$d")
	f := made(t, form.String())
	s, e := codec.Bytes(f, tree(said.String()))
	if e != ok {
		t.Fatalf("Bytes: %v", e)
	}
	b := []byte(s)
	spans := wantWhole(t, f, b, 1+20000+1+2*n+2, fmt.Sprintf("%d %d data d", len(b)-1, len(b)))
	if got, want := told(spans[20001+2*n:20002+2*n]), fmt.Sprintf("%d %d dim g[%d].h", len(b)-5, len(b)-2, n-1); got != want {
		t.Errorf("P22.1: %s, not %s", got, want)
	}
	// A reader that stops early leaves the rest alone.
	for range 5 {
		if some, _ := first(dump.Each(f, b, 0), 3); len(some) != 3 {
			t.Errorf("P22.2: %d spans", len(some))
		}
	}
}

// P22.6: as many entries as may be, without a byte each; and the number of the last one may stand in a path.
func TestEntriesOfNothing(t *testing.T) {
	f := made(t, "g{32 } h{32 } d$8")
	wantWhole(t, f, headed(0, 0, "0000 ffff0000 0000 01000000 0164"), 5, "21 22 data d")
	b := headed(0, 0, "0100 00000100")
	b = append(b, make([]byte, 65536)...)
	b = append(b, unhex("0000 00000000 00")...)
	spans := wantWhole(t, f, b, 2+65536+2, fmt.Sprintf("%d %d length d", len(b)-1, len(b)))
	if got, want := told(spans[2+65535:2+65536]), "65549 65550 pad g[65535]"; got != want {
		t.Errorf("P22.1: the last entry is %s, not %s", got, want)
	}
}

// P22.6: many groups and data in the row of a message.
func TestManyMembers(t *testing.T) {
	var form, said strings.Builder
	said.WriteString("M")
	const n = 15000
	for i := range n {
		fmt.Fprintf(&form, "g%d{8 x:uint8 } ", i)
		fmt.Fprintf(&said, " g%d{ - x=%d - x=1 }", i, i%200)
	}
	for i := range n {
		fmt.Fprintf(&form, "d%d$8 ", i)
		fmt.Fprintf(&said, " d%d$%d", i, i)
	}
	f := made(t, form.String())
	s, e := codec.Bytes(f, tree(said.String()))
	if e != ok {
		t.Fatalf("Bytes: %v", e)
	}
	wantWhole(t, f, []byte(s), 1+3*n+2*n, fmt.Sprintf("%d %d data d%d", len(s)-5, len(s), n-1))
}

// P22.6: the longest message, nearly all of it one data, and one of bytes that are each a member.
func TestLongest(t *testing.T) {
	f := made(t, "a:uint8 d$32")
	n := api.MaxMessage - 8 - 1 - 4
	b := append(headed(1, 0, "01"), byte(n), byte(n>>8), byte(n>>16), 0)
	b = append(b, noise(n, 1)...)
	wantWhole(t, f, b, 4, fmt.Sprintf("13 %d data d", api.MaxMessage))
	g := made(t, "g{16 a$8 b$8 c$8 d$8 e$8 f$8 }")
	b = append(headed(0, 0, "0000 0080"), make([]byte, 6*32768)...)
	wantWhole(t, g, b, 2+6*32768, fmt.Sprintf("%d %d length g[32767].f", len(b)-1, len(b)))
}

// grownBy is how many bytes a call asks memory for.
func grownBy(do func()) uint64 {
	var was, is runtime.MemStats
	runtime.ReadMemStats(&was)
	do()
	runtime.ReadMemStats(&is)
	return is.TotalAlloc - was.TotalAlloc
}

// P22.6: the work hangs on the message, not on what stands behind it, or ahead: a short one in a great buffer is told soon, and no more is copied than it has.
func TestGreatBuffer(t *testing.T) {
	f := made(t, chapter)
	const at = 1 << 24
	for _, message := range []string{sample, sample[:17], "nothing at all"} {
		b := slices.Concat(make([]byte, at), []byte(message))
		if message != sample[:17] {
			b = append(b, make([]byte, at)...)
		}
		asked := grownBy(func() {
			dump.Spans(f, b, at)
			dump.Lines(f, b, at)
			for range dump.Each(f, b, at) {
			}
		})
		if asked > at/16 {
			t.Errorf("P22.6: %d bytes of memory were asked for", asked)
		}
	}
	// Many messages one behind the other, each told from its own place on.
	b := []byte(strings.Repeat(sample, 5000))
	n := 0
	for place := 0; place < len(b); place += len(sample) {
		for s := range dump.Each(f, b, place) {
			n += s.To - s.From
		}
	}
	if n != len(b) {
		t.Errorf("P22.5: %d bytes were told, of %d", n, len(b))
	}
}

// P22.6: Read of many lines, and of long ones, right and wrong.
func TestReadMuch(t *testing.T) {
	var lines []string
	for i := range 200000 {
		lines = append(lines, fmt.Sprintf("%d %d pad - %02x", i, i+1, i%256))
	}
	if s, e, n := dump.Read(lines); len(s) != len(lines) || e != ok || n != 0 {
		t.Errorf("P22.4: %d bytes, %v, %d", len(s), e, n)
	}
	lines[199999] = "199999 200001 pad - 00"
	readWants(t, lines, 199999)
	const size = 1 << 20
	long := fmt.Sprintf("0 %d data %sz %s", size, strings.Repeat("a[0].", size), strings.Repeat("7a", size))
	if s, e, n := dump.Read([]string{long}); s != strings.Repeat("z", size) || e != ok || n != 0 {
		t.Errorf("P22.4: %d bytes, %v, %d", len(s), e, n)
	}
	for _, wrong := range []string{long + "7", long + " ", strings.Repeat(" ", size), strings.Repeat("0 1 ", size), strings.Repeat("9", size) + long, "0 1 pad " + strings.Repeat("a", size) + " 00"} {
		readWants(t, []string{wrong}, 0)
	}
}
