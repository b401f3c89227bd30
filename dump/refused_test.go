package dump_test

import (
	"math"
	"slices"
	"testing"

	"stencil/api"
	"stencil/dump"
)

// sampleFront is what Each gives of the chapter's bytes, where so many spans end ahead of what is refused.
var sampleFront = []string{
	0: "",
	3: "0 8 head; 8 9 field a; 9 11 field b",
	4: "0 8 head; 8 9 field a; 9 11 field b; 11 14 dim g",
	5: "0 8 head; 8 9 field a; 9 11 field b; 11 14 dim g; 14 15 field g[0].x",
}

// P22.1, P22.2: the chapter's bytes cut at every byte: a member that isn't whole gives nothing of its own.
func TestCutSample(t *testing.T) {
	f := made(t, chapter)
	for n := range len(sample) {
		spans := 0
		switch {
		case n >= 15:
			spans = 5
		case n >= 14:
			spans = 4
		case n >= 11:
			spans = 3
		}
		wants(t, f, []byte(sample[:n]), 0, api.ErrShort, sampleFront[spans])
	}
	wants(t, f, []byte(sample), 0, ok, sampleSpans)
}

// P22.1, P22.2: messages with something of every kind, cut at every byte.
func TestCutGrown(t *testing.T) {
	f := grown(t)
	p := planOf(f)
	for version := 1; version <= 4; version++ {
		b := slices.Concat(noise(3, 2), written(t, f, version, grownTree(version)))
		for n := range b {
			if e, _ := hold(t, p, b[:n], 3); n < 3 && e != api.ErrBuffer || n >= 3 && e != api.ErrShort {
				t.Errorf("P22.1: version %d, %d bytes: %v", version, n, e)
			}
		}
		hold(t, p, b, 3)
	}
}

// P22.1, P22.2: every byte of a message is another one.
func TestSpoiltBytes(t *testing.T) {
	f := grown(t)
	p := planOf(f)
	got := map[api.Errno]int{}
	for version := 1; version <= 4; version++ {
		b := written(t, f, version, grownTree(version))
		for i := range b {
			for _, c := range []byte{0, 1, 3, 254, 255, b[i] + 1, b[i] - 1} {
				e, _ := hold(t, p, with(b, i, c), 0)
				got[e]++
			}
		}
	}
	for _, e := range []api.Errno{ok, api.ErrShort, api.ErrSchemaID, api.ErrTemplate, api.ErrActing, api.ErrBlock, api.ErrCount, api.ErrData, api.ErrLong} {
		if got[e] < 5 {
			t.Errorf("only %d were answered %v: %v", got[e], e, got)
		}
	}
}

// P22.1, P22.2: buffers with nothing in them, and places of every kind.
func TestPlaces(t *testing.T) {
	f := made(t, chapter)
	for _, b := range [][]byte{nil, {}} {
		for at, want := range map[int]api.Errno{0: api.ErrShort, 1: api.ErrBuffer, -1: api.ErrBuffer, math.MaxInt: api.ErrBuffer, math.MinInt: api.ErrBuffer} {
			refuse(t, "no bytes", f, b, at, want)
			refuse(t, "no bytes, and no form", api.Form{}, b, at, api.ErrTokens)
		}
	}
	b := []byte(sample)
	for at, want := range map[int]api.Errno{-1: api.ErrBuffer, 19: api.ErrBuffer, 20: api.ErrBuffer, math.MaxInt: api.ErrBuffer, math.MaxInt - 17: api.ErrBuffer, math.MinInt: api.ErrBuffer, 18: api.ErrShort, 11: api.ErrShort, 10: api.ErrSchemaID, 1: api.ErrSchemaID} {
		refuse(t, "a place", f, b, at, want)
	}
	// What stands behind the buffer's length isn't the buffer's.
	refuse(t, "room behind", f, b[:10:18], 0, api.ErrShort)
	refuse(t, "room behind", f, b[:0:18], 0, api.ErrShort)
	refuse(t, "room behind", f, b[:0:18], 1, api.ErrBuffer)
}

// P22.1: forms that ir.Check refuses are told ahead of all else.
func TestNoForms(t *testing.T) {
	whole := made(t, chapter)
	other := func(do func(f *api.Form)) api.Form {
		f := changed(whole, 0, func(*api.Token) {})
		do(&f)
		return f
	}
	for what, f := range map[string]api.Form{
		"nothing":               {},
		"another order":         other(func(f *api.Form) { f.Order = 2 }),
		"a version too great":   other(func(f *api.Form) { f.Version = 65535 }),
		"a version below":       other(func(f *api.Form) { f.Version = -1 }),
		"a version too low":     other(func(f *api.Form) { f.Version = 1 }),
		"no header":             other(func(f *api.Form) { f.Head = api.Head{} }),
		"no tokens":             other(func(f *api.Form) { f.Tokens = nil }),
		"the end missing":       other(func(f *api.Form) { f.Tokens = f.Tokens[:len(f.Tokens)-1] }),
		"a token more":          other(func(f *api.Form) { f.Tokens = append(f.Tokens, f.Tokens[0]) }),
		"a field over another":  other(func(f *api.Form) { f.Tokens[4].Offset = 0 }),
		"a name that is none":   other(func(f *api.Form) { f.Tokens[1].Name = "a b" }),
		"a pair elsewhere":      other(func(f *api.Form) { f.Tokens[0].Pair = 0 }),
		"an Op that is none":    other(func(f *api.Form) { f.Tokens[2].Op = -1 }),
		"a field behind itself": other(func(f *api.Form) { f.Tokens[1].Pair = 1 }),
	} {
		refuse(t, what, f, []byte(sample), 0, api.ErrTokens)
		refuse(t, what+", and no place", f, []byte(sample), -1, api.ErrTokens)
		refuse(t, what+", and no bytes", f, nil, 0, api.ErrTokens)
	}
}

// P22.1: where several things are wrong the first of the decoder's errors is told.
func TestFirstError(t *testing.T) {
	f := made(t, chapter)
	b := headed(0, 9, "")
	b[2], b[4] = 9, 9
	for _, c := range []struct {
		what string
		mend func()
		want api.Errno
	}{
		{"all is wrong", func() {}, api.ErrSchemaID},
		{"all but the schema", func() { b[4] = 7 }, api.ErrTemplate},
		{"all but schema and message", func() { b[2] = 3 }, api.ErrActing},
		{"the block, of the version 1", func() { b[6] = 1 }, api.ErrBlock},
		{"no bytes behind the header", func() { b[0] = 3 }, api.ErrShort},
	} {
		c.mend()
		refuse(t, c.what, f, b, 0, c.want)
	}
	refuse(t, "a header cut, of another schema", f, b[:7], 0, api.ErrShort)
	refuse(t, "no place, and a header cut", f, b[:7], 8, api.ErrBuffer)
	long := wide(made(t, "a:uint8"))
	refuse(t, "a block too long", long, append(unhex("ffffff7f 03000000 07000000 01000000"), 1), 0, api.ErrLong)
	refuse(t, "a block cut", long, append(unhex("ffff0000 03000000 07000000 01000000"), 1), 0, api.ErrShort)
}

// P22.2: a dimension that is refused gives nothing, nor does anything behind it.
func TestDimensionRefused(t *testing.T) {
	f := made(t, "a:uint8 f{8 v:uint8 } g{16 x:uint16 h{8 y:uint8 } } d$8")
	front := "0 8 head; 8 9 field a; 9 12 dim f; 12 13 field f[0].v"
	b := func(rest string) []byte { return headed(1, 0, "01 0100 01 02"+rest) }
	wants(t, f, b("0200 0100 0304 0100 01 05 00"), 0, ok, front+"; 13 17 dim g; 17 19 field g[0].x; 19 22 dim g[0].h; 22 23 field g[0].h[0].y; 23 24 length d")
	wants(t, f, b("0200 01"), 0, api.ErrShort, front)
	wants(t, f, b(""), 0, api.ErrShort, front)
	wants(t, f, b("0200 ffff 0304 0100 01 05 00"), 0, api.ErrCount, front)
	wants(t, f, b("0100 0100 0304 0100 01 05 00"), 0, api.ErrBlock, front)
	wants(t, f, b("ffff feff 0304 0100 01 05 00"), 0, api.ErrLong, front)
	// Of one inside a group the group's own dimension and the entry's block stand ahead.
	inner := front + "; 13 17 dim g; 17 19 field g[0].x"
	wants(t, f, b("0200 0100 0304 0100"), 0, api.ErrShort, inner)
	wants(t, f, b("0200 0100 0304 0100 ff 05 00"), 0, api.ErrCount, inner)
	wants(t, f, b("0200 0100 0304 0000 01 05 00"), 0, api.ErrBlock, inner)
	wants(t, f, b("0200 0200 0304 0000 00 0607 0000 01 05 00"), 0, api.ErrBlock, inner+"; 19 22 dim g[0].h; 22 24 field g[1].x")
	// What follows a group that is refused isn't told, though its bytes were whole.
	wants(t, f, b("0200 ffff 0161"), 0, api.ErrCount, front)
}

// P22.2: an entry whose block isn't whole gives nothing, but the entries ahead of it and their dimension do.
func TestEntryRefused(t *testing.T) {
	f := made(t, "g{8 x:uint8 y:uint8 e$8 } d$8")
	front := "0 8 head; 8 11 dim g"
	wants(t, f, headed(0, 0, "0200 02 0102 00 0304 0161 00"), 0, ok, front+"; 11 12 field g[0].x; 12 13 field g[0].y; 13 14 length g[0].e; 14 15 field g[1].x; 15 16 field g[1].y; 16 17 length g[1].e; 17 18 data g[1].e; 18 19 length d")
	wants(t, f, headed(0, 0, "0200 02"), 0, api.ErrShort, front)
	wants(t, f, headed(0, 0, "0200 02 01"), 0, api.ErrShort, front)
	wants(t, f, headed(0, 0, "0200 02 0102"), 0, api.ErrShort, front+"; 11 12 field g[0].x; 12 13 field g[0].y")
	wants(t, f, headed(0, 0, "0200 02 0102 00"), 0, api.ErrShort, front+"; 11 12 field g[0].x; 12 13 field g[0].y; 13 14 length g[0].e")
	wants(t, f, headed(0, 0, "0200 02 0102 00 03"), 0, api.ErrShort, front+"; 11 12 field g[0].x; 12 13 field g[0].y; 13 14 length g[0].e")
	// The fields of a block that is longer than they are whole, but the block isn't.
	wants(t, f, headed(0, 0, "0400 01 0102 03"), 0, api.ErrShort, front)
}

// P22.2: data that is refused gives neither its length nor its bytes, whatever there is of them.
func TestDataRefused(t *testing.T) {
	f := made(t, "a:uint8 d$8 e$16 n$32")
	front := "0 8 head; 8 9 field a"
	b := func(rest string) []byte { return headed(1, 0, "01"+rest) }
	wants(t, f, b("0141 0200 4243 00000000"), 0, ok, front+"; 9 10 length d; 10 11 data d; 11 13 length e; 13 15 data e; 15 19 length n")
	wants(t, f, b(""), 0, api.ErrShort, front)
	wants(t, f, b("01"), 0, api.ErrShort, front)
	wants(t, f, b("ff"), 0, api.ErrData, front)
	wants(t, f, append(b("ff"), make([]byte, 300)...), 0, api.ErrData, front)
	two := front + "; 9 10 length d; 10 11 data d"
	wants(t, f, b("0141 02"), 0, api.ErrShort, two)
	wants(t, f, b("0141 0200 42"), 0, api.ErrShort, two)
	wants(t, f, b("0141 ffff 42"), 0, api.ErrData, two)
	three := two + "; 11 13 length e"
	wants(t, f, b("0141 0000 000000"), 0, api.ErrShort, three)
	wants(t, f, b("0141 0000 01000000"), 0, api.ErrShort, three)
	wants(t, f, b("0141 0000 ffffffff"), 0, api.ErrData, three)
	wants(t, f, b("0141 0000 00001000"), 0, api.ErrLong, three)
	wants(t, f, b("0141 0000 feffffff"), 0, api.ErrLong, three)
}

// P22.2: entries of all groups together may be too many; those ahead are told.
func TestTooManyEntries(t *testing.T) {
	f := made(t, "g{32 } h{32 } d$8")
	b := headed(0, 0, "0000 ffff0000 0000 01000000 00")
	wants(t, f, b, 0, ok, "0 8 head; 8 14 dim g; 14 20 dim h; 20 21 length d")
	wants(t, f, with(b, 16, 2), 0, api.ErrEntries, "0 8 head; 8 14 dim g")
	wants(t, f, with(b, 10, 1, 0, 1), 0, api.ErrEntries, "0 8 head")
	wants(t, f, with(b, 10, 0, 0, 1, 0, 0, 0, 0), 0, ok, "0 8 head; 8 14 dim g; 14 20 dim h; 20 21 length d")
}

// P22.2: a message that weighs too much is told up to the member with which it does, though all its bytes are there.
func TestTooHeavy(t *testing.T) {
	f := made(t, "a:uint8 d$32 e$32")
	room := api.MaxMessage - 8 - 1 - 4
	for over := range 3 {
		first := room - 4 - 1
		b := headed(1, 0, "01")
		b = append(b, byte(first), byte(first>>8), byte(first>>16), 0)
		b = append(b, make([]byte, first)...)
		b = append(b, byte(over), 0, 0, 0)
		b = append(b, make([]byte, 5)...)
		spans, e := dump.Spans(f, b, 0)
		front := each(f, b, 0)
		if over < 2 {
			if e != ok || len(spans) != 5+over || !sameSpans(front, spans) || spans[len(spans)-1].To != api.MaxMessage-1+over {
				t.Errorf("P22.1: %d bytes: %s, %v", api.MaxMessage-1+over, told(spans), e)
			}
			continue
		}
		if e != api.ErrLong || len(spans) != 0 || len(front) != 4 || front[3].To != 13+first {
			t.Errorf("P22.1, P22.2: a byte too much: %v, %s", e, told(front))
		}
	}
	// A later schema's blocks weigh, though the bytes have shorter ones.
	g := made(t, "g{32 x:uint8 +1023 } d$8")
	b := headed(0, 0, "0100 00040000")
	b = append(b, make([]byte, 2000)...)
	refuseBehind(t, g, b, api.ErrLong, "0 8 head")
	b[11], b[10] = 3, 255
	if spans, e := dump.Spans(g, b, 0); e != ok || len(spans) != 2+1023+1 {
		t.Errorf("P22.1: %d spans, %v", len(spans), e)
	}
}

// refuseBehind asks of great bytes, which the second look would be slow with, for the error and what is ahead of it.
func refuseBehind(t testing.TB, f api.Form, b []byte, want api.Errno, spans string) {
	t.Helper()
	if got, e := dump.Spans(f, b, 0); e != want || len(got) != 0 {
		t.Errorf("P22.1: %.99s, %v; want %v", told(got), e, want)
	}
	if got := told(each(f, b, 0)); got != spans {
		t.Errorf("P22.2: %.99s; want %s", got, spans)
	}
}
