package dump_test

import (
	"encoding/hex"
	"slices"
	"strings"
	"testing"

	"stencil/api"
	"stencil/codec"
	"stencil/dump"
)

// unhex are the bytes of hex digits with blanks between them.
func unhex(said string) []byte {
	b, err := hex.DecodeString(strings.ReplaceAll(said, " ", ""))
	if err != nil {
		panic(err)
	}
	return b
}

// headed are bytes behind a header of the form M that tells a block's length and a version.
func headed(block, version int, rest string) []byte {
	return slices.Concat([]byte{byte(block), byte(block >> 8), 3, 0, 7, 0, byte(version), 0}, unhex(rest))
}

// P22.1: fields without bytes aren't told, and part no gap in two; a field's Size is told whole, whether its leaves take all of it or none.
func TestFieldsWithoutBytes(t *testing.T) {
	wants(t, made(t, "a:uint8 k! c:(=char*2) b:uint8"), headed(2, 2, "01 02"), 0, ok, "0 8 head; 8 9 field a; 9 10 field b")
	wants(t, made(t, ". k! . c:(=char*2) . b:uint8 l! . m!"), headed(5, 2, "00 00 00 01 00"), 0, ok, "0 8 head; 8 11 pad; 11 12 field b; 12 13 pad")
	wants(t, made(t, "k! c:(=uint8)"), headed(0, 2, ""), 0, ok, "0 8 head")
	wants(t, made(t, "k!"), headed(3, 2, "00 00 00"), 0, ok, "0 8 head; 8 11 pad")
	wants(t, made(t, "e:(.,.) p:(uint8,.,.,uint16,=char,.) a:uint8"), headed(9, 2, "00 00 01 00 00 02 00 00 03"), 0, ok, "0 8 head; 8 10 field e; 10 16 field p; 16 17 field a")
}

// P22.1: gaps ahead of fields, between them and behind them, in a message and in entries.
func TestGaps(t *testing.T) {
	f := made(t, ". . a:uint8 . b:uint16 c:uint8 . . g{8 . x:uint8 . . y:uint8 . }")
	wants(t, f, headed(9, 2, "00 00 01 00 02 02 03 00 00 0600 02 00 01 00 00 02 00 00 01 00 00 02 00"), 0, ok,
		"0 8 head; 8 10 pad; 10 11 field a; 11 12 pad; 12 14 field b; 14 15 field c; 15 17 pad; 17 20 dim g; "+
			"20 21 pad g[0]; 21 22 field g[0].x; 22 24 pad g[0]; 24 25 field g[0].y; 25 26 pad g[0]; "+
			"26 27 pad g[1]; 27 28 field g[1].x; 28 30 pad g[1]; 30 31 field g[1].y; 31 32 pad g[1]")
}

// P22.1: the block's length is the one that the bytes tell: at the form's, above it, and, of a version whose fields end earlier, below it.
func TestBlockLengths(t *testing.T) {
	f := made(t, chapter)
	const rest = " 0000 00 00"
	front := "0 8 head; 8 9 field a; 9 11 field b; "
	// At version 1 the block has three bytes; c, of which the bytes know nothing, would lie in the two behind.
	wants(t, f, headed(2, 1, "09 fe"+rest), 0, api.ErrBlock, "")
	wants(t, f, headed(3, 1, "09 feff"+rest), 0, ok, front+"11 14 dim g; 14 15 length d")
	wants(t, f, headed(4, 1, "09 feff 01"+rest), 0, ok, front+"11 12 pad; 12 15 dim g; 15 16 length d")
	wants(t, f, headed(5, 1, "09 feff 0102"+rest), 0, ok, front+"11 13 pad; 13 16 dim g; 16 17 length d")
	wants(t, f, headed(7, 1, "09 feff 0102 0304"+rest), 0, ok, front+"11 15 pad; 15 18 dim g; 18 19 length d")
	wants(t, f, headed(4, 2, "09 feff 01"+rest+"00"), 0, api.ErrBlock, "")
	wants(t, f, headed(5, 2, "09 feff 0102"+rest+"00"), 0, ok, front+"11 13 field c; 13 16 dim g; 16 17 length d; 17 18 length n")
	wants(t, f, headed(6, 2, "09 feff 0102 03"+rest+"00"), 0, ok, front+"11 13 field c; 13 14 pad; 14 17 dim g; 17 18 length d; 18 19 length n")
}

// P22.1: so it is of entries, each of whose blocks is as long as the dimension tells.
func TestEntryLengths(t *testing.T) {
	f := made(t, "g{8 x:uint8 y@2:uint16 . +9 }")
	wants(t, f, headed(0, 1, "0000 01 01"), 0, api.ErrBlock, "0 8 head")
	wants(t, f, headed(0, 1, "0100 02 01 02"), 0, ok, "0 8 head; 8 11 dim g; 11 12 field g[0].x; 12 13 field g[1].x")
	wants(t, f, headed(0, 1, "0200 02 01 00 02 00"), 0, ok, "0 8 head; 8 11 dim g; 11 12 field g[0].x; 12 13 pad g[0]; 13 14 field g[1].x; 14 15 pad g[1]")
	wants(t, f, headed(0, 2, "0200 01 01 00"), 0, api.ErrBlock, "0 8 head")
	wants(t, f, headed(0, 2, "0300 01 01 0200"), 0, ok, "0 8 head; 8 11 dim g; 11 12 field g[0].x; 12 14 field g[0].y")
	wants(t, f, headed(0, 2, "0500 01 01 0200 0304"), 0, ok, "0 8 head; 8 11 dim g; 11 12 field g[0].x; 12 14 field g[0].y; 14 16 pad g[0]")
	// Where there is no entry its block's length isn't asked, and none is told.
	wants(t, f, headed(0, 2, "0000 00"), 0, ok, "0 8 head; 8 11 dim g")
	wants(t, f, headed(0, 2, "ffff 00"), 0, ok, "0 8 head; 8 11 dim g")
}

// P22.1: blocks of no byte, of a message and of entries, have no span; neither has data of no byte.
func TestNothingIsNotTold(t *testing.T) {
	wants(t, made(t, ""), headed(0, 2, ""), 0, ok, "0 8 head")
	wants(t, made(t, ""), headed(1, 2, "00"), 0, ok, "0 8 head; 8 9 pad")
	f := made(t, "g{8 } h{8 e$8 } d$16 n$8")
	wants(t, f, headed(0, 2, "0000 03 0000 02 00 0178 0000 00"), 0, ok,
		"0 8 head; 8 11 dim g; 11 14 dim h; 14 15 length h[0].e; 15 16 length h[1].e; 16 17 data h[1].e; 17 19 length d; 19 20 length n")
	wants(t, f, headed(0, 2, "0200 02 0000 0000 0100 01 07 00 0000 00"), 0, ok,
		"0 8 head; 8 11 dim g; 11 13 pad g[0]; 13 15 pad g[1]; 15 18 dim h; 18 19 pad h[0]; 19 20 length h[0].e; 20 22 length d; 22 23 length n")
}

// P22.1: groups in groups: the paths' entries are those of each, counted from 0 on for each entry that holds them.
func TestNested(t *testing.T) {
	f := made(t, "g{8 x:uint8 h{8 y:uint8 i{8 z:uint8 } e$8 } k{8 } n$8 } d$8")
	b := headed(0, 2, "0100 02"+
		" 01 0100 02"+" 02 0100 01 03 0161"+" 04 0100 00 00"+" 0000 01 026262"+
		" 05 0000 00"+" 0000 00 00"+
		" 00")
	wants(t, f, b, 0, ok, "0 8 head; 8 11 dim g; "+
		"11 12 field g[0].x; 12 15 dim g[0].h; "+
		"15 16 field g[0].h[0].y; 16 19 dim g[0].h[0].i; 19 20 field g[0].h[0].i[0].z; 20 21 length g[0].h[0].e; 21 22 data g[0].h[0].e; "+
		"22 23 field g[0].h[1].y; 23 26 dim g[0].h[1].i; 26 27 length g[0].h[1].e; "+
		"27 30 dim g[0].k; 30 31 length g[0].n; 31 33 data g[0].n; "+
		"33 34 field g[1].x; 34 37 dim g[1].h; 37 40 dim g[1].k; 40 41 length g[1].n; "+
		"41 42 length d")
}

// P22.1: as many groups in one another as may be.
func TestDeepest(t *testing.T) {
	f := made(t, "a{8 b{8 c{8 d{8 e{8 f{8 g{8 h{8 x:uint8 } } } } } } } }")
	spans, e := dump.Spans(f, headed(0, 0, strings.Repeat("0000 01 ", 7)+"0100 02 07 08"), 0)
	if e != ok || len(spans) != 11 || told(spans[8:]) != "29 32 dim a[0].b[0].c[0].d[0].e[0].f[0].g[0].h; 32 33 field a[0].b[0].c[0].d[0].e[0].f[0].g[0].h[0].x; 33 34 field a[0].b[0].c[0].d[0].e[0].f[0].g[0].h[1].x" {
		t.Errorf("P22.1: %s, %v", told(spans), e)
	}
}

// P22.1: what doesn't live in the bytes isn't told: fields, groups and data of later versions.
func TestVersions(t *testing.T) {
	f := made(t, "@0 a:uint8 b@1:uint8 c@2:uint8 g{8 x:uint8 } h@1{8 y@1:uint8 z@2:uint8 } d@1$8 n@2$8")
	wants(t, f, headed(1, 0, "01 0100 01 07"), 0, ok, "0 8 head; 8 9 field a; 9 12 dim g; 12 13 field g[0].x")
	wants(t, f, headed(3, 0, "01 02 03 0000 00 ffff"), 0, ok, "0 8 head; 8 9 field a; 9 11 pad; 11 14 dim g")
	wants(t, f, headed(2, 1, "01 02 0000 00 0200 01 07 08 00"), 0, ok, "0 8 head; 8 9 field a; 9 10 field b; 10 13 dim g; 13 16 dim h; 16 17 field h[0].y; 17 18 pad h[0]; 18 19 length d")
	wants(t, f, headed(3, 2, "01 02 03 0000 00 0200 01 07 08 00 0163"), 0, ok, "0 8 head; 8 9 field a; 9 10 field b; 10 11 field c; 11 14 dim g; 14 17 dim h; 17 18 field h[0].y; 18 19 field h[0].z; 19 20 length d; 20 21 length n; 21 22 data n")
	// A form as it was at 1 knows no bytes of 2, and of those of 1 what there was.
	old := then(t, f, 1)
	wants(t, old, headed(3, 2, "01 02 03 0000 00 0000 00 00 00"), 0, api.ErrActing, "")
	wants(t, old, headed(3, 1, "01 02 03 0000 00 0000 00 00 00"), 0, ok, "0 8 head; 8 9 field a; 9 10 field b; 10 11 pad; 11 14 dim g; 14 17 dim h; 17 18 length d")
}

// P22.1 to P22.5: a message with something of every kind in it, of each of its versions, at some places, in both orders of bytes, with blocks longer than they must be.
func TestGrown(t *testing.T) {
	for version := 1; version <= 4; version++ {
		for _, f := range []api.Form{grown(t), big(grown(t)), wide(grown(t))} {
			g := then(t, f, version)
			for i := range g.Tokens {
				if x := &g.Tokens[i]; x.Op == api.BeginMessage || x.Op == api.BeginGroup {
					x.Block, x.Full = x.Block+2, x.Full+2
				}
			}
			for _, old := range []api.Form{then(t, f, version), g} {
				s, e := codec.Bytes(old, grownTree(version))
				if e != ok {
					t.Fatal(e)
				}
				for at := range 3 {
					b := slices.Concat(noise(at, 3), []byte(s), noise(at*5, 4))
					if e, _ := hold(t, planOf(f), b, at); e != ok {
						t.Errorf("P22.1: version %d at %d: %v", version, at, e)
					}
				}
			}
		}
	}
}

// P22.1: header and dimensions of other sizes, with gaps between their numbers, are one span each.
func TestOtherHeads(t *testing.T) {
	f := made(t, "a:uint8 g{8 x:uint8 } d$32")
	f.Head = api.Head{Size: 13, Version: spot(api.Uint8, 1), Schema: spot(api.Uint32, 3), Block: spot(api.Uint8, 8), Template: spot(api.Uint16, 10)}
	g := placeOf(f, "g")
	f = changed(f, g, func(x *api.Token) { x.Size, x.B, x.A = 9, spot(api.Uint32, 0), spot(api.Uint16, 6) })
	b := unhex("ff 01 ff 07000000 ff 01 ff 0300 ff" + "09" + "01000000 ffff 0100 ff" + "08" + "02000000 6869")
	wants(t, f, b, 0, ok, "0 13 head; 13 14 field a; 14 23 dim g; 23 24 field g[0].x; 24 28 length d; 28 30 data d")
	lines, e := dump.Lines(f, b, 0)
	if e != ok || lines[0] != "0 13 head - ff01ff07000000ff01ff0300ff" || lines[2] != "14 23 dim g 01000000ffff0100ff" {
		t.Errorf("P22.3: %q, %v", lines, e)
	}
}

// P22.3: the numbers are told from the message's beginning on, wherever that lies.
func TestLinesElsewhere(t *testing.T) {
	f := made(t, chapter)
	for at := range 40 {
		b := slices.Concat(noise(at, 5), []byte(sample), noise(at%3, 6))
		if got, e := dump.Lines(f, b, at); e != ok || !slices.Equal(got, sampleLines) {
			t.Errorf("P22.3: at %d: %q, %v", at, got, e)
		}
		hold(t, planOf(f), b, at)
	}
}

// P22.1: messages one behind the other: each is told from its own place on, and no byte of the next one.
func TestRowOfMessages(t *testing.T) {
	f := made(t, chapter)
	b := []byte(sample + newer + sample)
	at := 0
	var all []string
	for at < len(b) {
		spans, e := dump.Spans(f, b, at)
		if e != ok {
			t.Fatalf("P22.1: at %d: %v", at, e)
		}
		lines, _ := dump.Lines(f, b, at)
		s, _, _ := dump.Read(lines)
		all = append(all, s)
		at = spans[len(spans)-1].To
	}
	if !slices.Equal(all, []string{sample, newer, sample}) {
		t.Errorf("P22.5: %q", all)
	}
}

// P22.5: what stands in bytes of SpanPad is told by no decoder.
func TestPadsAreNotTold(t *testing.T) {
	f := made(t, ". a:uint8 . b@2:uint16 g{8 . x:uint8 . } d$8")
	b := headed(7, 1, "01 02 03 04 05 06 07 0500 02 01 02 03 04 05 06 07 08 09 0a 0141")
	e, spans := hold(t, planOf(f), b, 0)
	if e != ok {
		t.Fatal(e)
	}
	if n := holdPads(t, f, b, 0, spans); n != 6+8 {
		t.Errorf("P22.1: %d bytes of gaps: %s", n, told(spans))
	}
}

// holdPads writes others over the bytes of all gaps: the tree, its size and the spans are the same for every reader. How many there are is answered.
func holdPads(t testing.TB, f api.Form, b []byte, at int, spans []api.Span) int {
	t.Helper()
	other := slices.Clone(b)
	n := 0
	for _, s := range spans {
		if s.Kind != api.SpanPad {
			continue
		}
		n += s.To - s.From
		for i := s.From; i < s.To; i++ {
			other[i] ^= byte(1 + i%255)
		}
	}
	for reader := f.Tokens[0].Since; reader <= f.Version; reader++ {
		tree, size, e := codec.Decode(f, reader, b, at)
		again, other, err := codec.Decode(f, reader, other, at)
		if e != ok || err != ok || size != other || !sameTree(tree, again) {
			t.Fatalf("P22.5: other bytes in gaps of %s are told: %v, %d, %v; %v, %d, %v", head(b), tree, size, e, again, other, err)
		}
	}
	if got, e := dump.Spans(f, other, at); e != ok || !sameSpans(got, spans) {
		t.Fatalf("P22.5: other bytes in gaps give other spans: %s, %v", told(got), e)
	}
	return n
}

func sameTree(x, y []api.Val) bool {
	return slices.EqualFunc(x, y, func(v, w api.Val) bool {
		return v.Depth == w.Depth && v.Kind == w.Kind && v.Name == w.Name && v.Text == w.Text && slices.Equal(v.Words, w.Words)
	})
}
