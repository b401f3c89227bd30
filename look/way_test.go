package look_test

import (
	"encoding/binary"
	"fmt"
	"math"
	"slices"
	"strings"
	"testing"

	"stencil/api"
	"stencil/look"
)

// forms are a form in both orders of bytes, and with wider headers and dimensions.
func forms(f api.Form) []api.Form { return []api.Form{f, big(f), wide(f), big(wide(f))} }

// tells asks Get of a path alone.
func (c *scene) tells(said string, want api.Told) {
	c.t.Helper()
	if got, e := look.Get(c.f, c.buffer, c.at, steps(said)); e != ok || !sameTold(got, want) {
		c.t.Errorf("P21.1: Get of %s = %.99v, %v; want %.99v", said, got, e, want)
	}
}

// lies asks Where of a path alone.
func (c *scene) lies(said string, kind api.SpanKind, from, to int) {
	c.t.Helper()
	want := api.Span{From: from, To: to, Kind: kind, Path: steps(said)}
	if got, e := look.Where(c.f, c.buffer, c.at, steps(said)); e != ok || !sameSpan(got, want) {
		c.t.Errorf("P21.2: Where of %s = %v, %v; want %v", said, got, e, want)
	}
}

func word(w ...uint64) api.Told { return api.Told{Words: w} }

// P21.1, P21.2: groups and data ahead are gone through whole, each with what is in its entries; entries ahead likewise.
func TestWays(t *testing.T) {
	f := made(t, "a:uint8 g{8 x:uint16 h{8 y:uint8 e$8 } i{8 } c$8 } j{8 z:uint8 } d$8 n$8")
	b := written(t, f, 2, tree("M a=1 g{ - x=300 h{ - y=3 e$ee - y=4 e$ } i{ - - } c$c - x=301 h{ } i{ } c$ - x=302 h{ - y=5 e$eee } i{ - } c$cc } j{ - z=6 - z=7 } d$dd n$n"))
	// 8 header, 1 a; g at 9: 2 0 3; x at 12, h at 14: 1 0 2; y 17, e 18 2 bytes; y 21, e 22; i at 23: 0 0 2; c at 26: 1; x at 28; h 30; i 33; c 36; x at 37; h at 39; y 42; e 43: 3; i 47; c 50: 2; j 53: z 56, 57; d 58: 2; n 61: 1.
	for _, at := range []int{0, 5} {
		c := sceneOf(t, f, slices.Concat(noise(at, 9), b, noise(at, 8)), at)
		c.tells("g", api.Told{Count: 3})
		c.lies("g", api.SpanDim, at+9, at+12)
		c.tells("g[0].x", word(300))
		c.lies("g[0].x", api.SpanField, at+12, at+14)
		c.tells("g[0].h", api.Told{Count: 2})
		c.lies("g[0].h", api.SpanDim, at+14, at+17)
		c.tells("g[0].h[1].y", word(4))
		c.lies("g[0].h[1].y", api.SpanField, at+21, at+22)
		c.tells("g[0].h[0].e", api.Told{Text: "ee"})
		c.lies("g[0].h[0].e", api.SpanData, at+19, at+21)
		c.tells("g[0].h[1].e", api.Told{})
		c.lies("g[0].h[1].e", api.SpanData, at+23, at+23)
		c.lies("g[0].i", api.SpanDim, at+23, at+26)
		c.tells("g[1].x", word(301))
		c.lies("g[1].x", api.SpanField, at+28, at+30)
		c.tells("g[1].h", api.Told{})
		c.lies("g[1].h", api.SpanDim, at+30, at+33)
		c.tells("g[2].h[0].e", api.Told{Text: "eee"})
		c.lies("g[2].h[0].e", api.SpanData, at+44, at+47)
		c.tells("g[2].c", api.Told{Text: "cc"})
		c.lies("g[2].c", api.SpanData, at+51, at+53)
		c.tells("j[1].z", word(7))
		c.lies("j[1].z", api.SpanField, at+57, at+58)
		c.tells("d", api.Told{Text: "dd"})
		c.lies("d", api.SpanData, at+59, at+61)
		c.tells("n", api.Told{Text: "n"})
		c.lies("n", api.SpanData, at+62, at+63)
		got := c.every(4)
		// M's 5, g's 3 of 4 each, h's 3 entries with 2 each, j's 2.
		if got[ok] != 25 || len(got) != 2 {
			t.Errorf("P21.1: all paths: %v", got)
		}
	}
	for _, f := range forms(f) {
		b := written(t, f, 1, tree("M a=1 g{ - x=300 h{ - y=3 e$ee } i{ - - } c$c - x=301 h{ } i{ } c$ } j{ } d$ n$nnn"))
		sceneOf(t, f, b, 0).every(3)
	}
}

// P21.1: entries just below the count, at it and above it; groups with no entry.
func TestEntries(t *testing.T) {
	f := made(t, "g{16 x:uint16 h{8 y:uint8 } } d$8")
	for _, n := range []int{0, 1, 2, 7, 254, 255, 300} {
		said := "M g{"
		for i := range n {
			said += fmt.Sprintf(" - x=%d h{%s }", i, strings.Repeat(" - y=9", i%3))
		}
		c := sceneOf(t, f, written(t, f, 0, tree(said+" } d$d")), 0)
		c.tells("g", api.Told{Count: n})
		for _, i := range []int{0, 1, n - 2, n - 1, n, n + 1, n + 300, 65535, 65536, 1 << 32, math.MaxInt - 1, math.MaxInt} {
			if i < 0 {
				continue
			}
			entry := fmt.Sprintf("g[%d].", i)
			if i >= n {
				c.wants(api.ErrPath, entry+"x", entry+"h", entry+"h[0].y")
				continue
			}
			c.wants(ok, entry+"x", entry+"h")
			c.tells(entry+"x", word(uint64(i)))
			c.tells(entry+"h", api.Told{Count: i % 3})
			for k := range 4 {
				want := ok
				if k >= i%3 {
					want = api.ErrPath
				}
				c.wants(want, fmt.Sprintf("%sh[%d].y", entry, k))
			}
		}
		c.wants(ok, "g", "d")
	}
}

// P21.1: groups as deep as may be.
func TestDeepest(t *testing.T) {
	form, said, path := "", "M", ""
	for i := range api.MaxNest {
		form += fmt.Sprintf("g%d{8 x:uint8 ", i)
		said += fmt.Sprintf(" g%d{ - x=%d", i, 10*i)
	}
	for i := range api.MaxNest {
		form += "d$8 } "
		// What is open now gets its data, a second entry without anything inside, and its end.
		k := api.MaxNest - 1 - i
		said += fmt.Sprintf(" d$d%d - x=%d", k, 10*k+1)
		if k < api.MaxNest-1 {
			said += fmt.Sprintf(" g%d{ }", k+1)
		}
		said += fmt.Sprintf(" d$D%d }", k)
	}
	f := made(t, form+"n$8")
	c := sceneOf(t, f, written(t, f, 2, tree(said+" n$n")), 0)
	for i := range api.MaxNest {
		group := path + fmt.Sprintf("g%d", i)
		c.tells(group, api.Told{Count: 2})
		c.tells(group+"[0].x", word(uint64(10*i)))
		c.tells(group+"[1].x", word(uint64(10*i+1)))
		c.tells(group+"[0].d", api.Told{Text: fmt.Sprint("d", i)})
		c.tells(group+"[1].d", api.Told{Text: fmt.Sprint("D", i)})
		c.wants(api.ErrPath, group+"[2].x")
		path = group + "[0]."
	}
	c.tells("n", api.Told{Text: "n"})
	if got := c.every(2); got[ok] < 30 || got[api.ErrPath] == 0 || len(got) != 2 {
		t.Errorf("P21.1: all paths: %v", got)
	}
}

// P21.1, P21.2: nothing behind the thing is looked at: what is cut off behind it, or spoilt, is no matter; things behind the cut are refused.
func TestCut(t *testing.T) {
	for _, f := range []api.Form{grown(t), big(wide(grown(t)))} {
		p := planOf(f)
		for version := 1; version <= 4; version++ {
			b := written(t, f, version, grownTree(version))
			whole := newScene(t, p, b, 0)
			for n := range len(b) + 1 {
				c := newScene(t, p, b[:n], 0)
				// A group and data that end ahead of the cut are there still.
				for said, x := range whole.things {
					if _, has := c.things[said]; x.lives && x.span.Kind != api.SpanField && x.span.To <= n && !has {
						t.Fatalf("%s lies ahead of %d", said, n)
					}
				}
				got := c.every(2)
				if n < len(b) && got[api.ErrShort] == 0 {
					t.Errorf("P21.1: the first %d bytes of %d: nothing is short: %v", n, len(b), got)
				}
				if n < f.Head.Size && (got[ok] != 0 || got[api.ErrPath] != 0) {
					t.Errorf("P21.1: the first %d bytes: %v", n, got)
				}
			}
		}
	}
}

// P21.1 to P21.3: each byte of messages otherwise: what lies ahead of it, or is no matter to it, is told as ever.
func TestSpoilt(t *testing.T) {
	errs := map[api.Errno]int{}
	for k, f := range []api.Form{grown(t), big(wide(grown(t)))} {
		p := planOf(f)
		paths := p.paths(2)
		for version := 1; version <= 4; version++ {
			b := written(t, f, version, grownTree(version))
			for i := range b {
				for _, put := range []byte{0, 1, 254, 255, b[i] + 1} {
					c := newScene(t, p, with(b, i, put), 0)
					// Not of all paths each time, but of each one at many bytes.
					for n := k; n < len(paths); n += 5 {
						errs[c.all(paths[n])]++
					}
					k = (k + 1) % 5
				}
			}
		}
	}
	for _, e := range []api.Errno{ok, api.ErrPath, api.ErrShort, api.ErrSchemaID, api.ErrTemplate, api.ErrActing, api.ErrBlock, api.ErrCount, api.ErrData, api.ErrLong} {
		if errs[e] == 0 {
			t.Errorf("nothing was answered %v: %v", e, errs)
		}
	}
}

// P21.1: each error of a decoder's call, at the thing itself, ahead of it, and behind it.
func TestErrorsOfCalls(t *testing.T) {
	f := made(t, "a:uint8 g{8 x:uint8 } h{32 y:uint8 } d$8 e$32")
	b := written(t, f, 2, tree("M a=1 g{ - x=2 - x=3 } h{ - y=4 } d$d e$e"))
	// The header 0, a 8, g 9, x 12 and 13, h 14, y 20, d 21, e 23.
	ahead := []string{"a", "g", "g[0].x", "g[1].x", "h", "h[0].y", "d", "e"}
	for _, x := range []struct {
		what string
		at   int
		put  []byte
		from int // the first of the things that is refused
		want api.Errno
	}{
		{"g's count is its null", 11, []byte{255}, 1, api.ErrCount},
		{"g's block is too short", 9, []byte{0}, 1, api.ErrBlock},
		{"g's entries are too long", 9, []byte{20}, 2, api.ErrShort},
		{"h's count is its null", 16, []byte{255, 255, 255, 255}, 4, api.ErrCount},
		{"h has too many entries", 16, []byte{255, 255, 0, 0}, 4, api.ErrEntries},
		{"h's block is too short", 14, []byte{0}, 4, api.ErrBlock},
		{"h weighs too much", 14, []byte{255, 255, 17}, 4, api.ErrLong},
		{"h's entry is too long", 14, []byte{20}, 5, api.ErrShort},
		{"d's length is its null", 21, []byte{255}, 6, api.ErrData},
		{"d is too long", 21, []byte{9}, 6, api.ErrShort},
		{"e's length is its null", 23, []byte{255, 255, 255, 255}, 7, api.ErrData},
		{"e weighs too much", 23, []byte{0, 0, 16, 0}, 7, api.ErrLong},
		{"e is too long", 23, []byte{2}, 7, api.ErrShort},
	} {
		c := sceneOf(t, f, with(b, x.at, x.put...), 0)
		for i, said := range ahead {
			want := ok
			if i >= x.from {
				want = x.want
			}
			if e := c.all(said); e != want {
				t.Errorf("P21.1: %s: %s = %v; want %v", x.what, said, e, want)
			}
		}
	}
}

// P21.1: as many entries, and as heavy a message, as may be, and one more.
func TestBudgets(t *testing.T) {
	f := made(t, "g{32 } h{32 } d$32 n$8")
	put := func(g, h, d int) []byte {
		b := slices.Concat([]byte{0, 0, 3, 0, 7, 0, 0, 0}, []byte{0, 0}, binary.LittleEndian.AppendUint32(nil, uint32(g)), []byte{0, 0}, binary.LittleEndian.AppendUint32(nil, uint32(h)))
		b = binary.LittleEndian.AppendUint32(b, uint32(d))
		return append(append(b, make([]byte, d)...), 0)
	}
	// The header, two dimensions, a length, and a length behind the data.
	const weight = 8 + 6 + 6 + 4 + 1
	for _, x := range []struct {
		g, h, d int
		want    map[string]api.Errno
	}{
		{65535, 1, 3, map[string]api.Errno{"g": ok, "h": ok, "d": ok, "n": ok}},
		{65535, 2, 3, map[string]api.Errno{"g": ok, "h": api.ErrEntries, "d": api.ErrEntries, "n": api.ErrEntries}},
		{65537, 0, 3, map[string]api.Errno{"g": api.ErrEntries, "h": api.ErrEntries, "n": api.ErrEntries}},
		{3, 3, api.MaxMessage - weight, map[string]api.Errno{"d": ok, "n": ok}},
		{3, 3, api.MaxMessage - weight + 1, map[string]api.Errno{"d": ok, "n": api.ErrLong}},
		{3, 3, api.MaxMessage - weight + 2, map[string]api.Errno{"h": ok, "d": api.ErrLong, "n": api.ErrLong}},
	} {
		b := put(x.g, x.h, x.d)
		for said, want := range x.want {
			if _, e := look.Get(f, b, 0, steps(said)); e != want {
				t.Errorf("P21.1: %d, %d, %d: Get of %s = %v; want %v", x.g, x.h, x.d, said, e, want)
			}
			if _, e := look.Where(f, b, 0, steps(said)); e != want {
				t.Errorf("P21.2: %d, %d, %d: Where of %s = %v; want %v", x.g, x.h, x.d, said, e, want)
			}
		}
	}
}

// P21.1 to P21.3: bytes of every version: what isn't in them is null, empty, "", and lies nowhere.
func TestVersions(t *testing.T) {
	newcomers := []string{"s:2", "p:3", "q:4", "g[0].y:3", "i:2", "d:3", "l:4"}
	null := map[string]api.Told{"s": word(0), "p": word(1<<64-1<<31, 255), "q": word(0, 0, 0), "g[0].y": word(7), "i": {}, "d": {}, "l": {}}
	for _, f := range forms(grown(t)) {
		for version := 1; version <= 4; version++ {
			m := grownTree(version)
			if version == 2 {
				m = tree("M a=9 e=255 s=3 g{ - x=8 h{ } m$ } i{ - v=4 }")
			}
			c := sceneOf(t, f, slices.Concat(noise(3, 1), written(t, f, version, m)), 3)
			for _, x := range newcomers {
				said, since, _ := strings.Cut(x, ":")
				path := steps(said)
				span, e := look.Where(f, c.buffer, 3, path)
				if version >= number(since) {
					if e != ok {
						t.Errorf("P21.2: at %d Where of %s = %v", version, said, e)
					}
					continue
				}
				c.tells(said, null[said])
				if e != api.ErrPath || !sameSpan(span, api.Span{}) {
					t.Errorf("P21.2: at %d Where of %s = %v, %v", version, said, span, e)
				}
				if e := c.set(path, null[said].Words...); e != api.ErrPath {
					t.Errorf("P21.3: at %d Set of %s = %v", version, said, e)
				}
				// With other words, too.
				c.set(path)
				c.set(path, 1<<63, 5, 5, 5)
			}
			if version < 2 {
				c.wants(api.ErrPath, "i[0].v")
			}
			c.every(3)
		}
	}
}

// P21.1: a form of an earlier version looks at messages of up to that version, and doesn't know what came later.
func TestOlderForms(t *testing.T) {
	f := grown(t)
	for known := 1; known <= 4; known++ {
		g := then(t, f, known)
		for version := 1; version <= 4; version++ {
			b := written(t, f, version, grownTree(version))
			c := sceneOf(t, g, b, 0)
			got := c.every(2)
			if version > known && (len(got) != 1 || got[api.ErrActing] == 0) {
				t.Errorf("P21.1: %d by the form of %d: %v", version, known, got)
			}
			if version <= known && got[ok] == 0 {
				t.Errorf("P21.1: %d by the form of %d: %v", version, known, got)
			}
			for said, since := range map[string]int{"s": 2, "i": 2, "p": 3, "d": 3, "g[0].y": 3, "q": 4, "l": 4} {
				if since > known {
					refuse(t, "a form that doesn't know it", g, b, 0, steps(said), []uint64{1}, api.ErrPath)
				}
			}
		}
	}
}

// P21.1 to P21.3: versions at the ends of what a form may have.
func TestFarVersions(t *testing.T) {
	f := madeAt(t, 65534, "@300 a:uint8 b@65534:uint8 g{8 x:uint8 y@301:uint8 }")
	for version, block := range map[int]int{299: 1, 300: 1, 301: 1, 65533: 1, 65534: 2, 65535: 2} {
		length := 1
		if version > 300 {
			length = 2
		}
		b := slices.Concat([]byte{byte(block), 0, 3, 0, 7, 0, byte(version), byte(version >> 8)}, noise(block, 1), []byte{byte(length), 0, 1}, noise(length, 2))
		c := sceneOf(t, f, b, 0)
		if version < 300 || version == 65535 {
			c.wants(api.ErrActing, "a", "b", "g", "g[0].x")
			continue
		}
		c.wants(ok, "a", "b", "g", "g[0].x", "g[0].y")
		c.wants(api.ErrPath, "g[1].x")
	}
}

// P21.1 to P21.3: blocks that are longer than the form's: what lies behind a block's fields is passed over, and fields that aren't in the bytes aren't there, however long the block.
func TestLongerBlocks(t *testing.T) {
	f := made(t, "a:uint8 c@2:uint16 g{8 x:uint8 y@1:uint8 d$8 } n$8")
	for _, more := range []int{0, 1, 2, 3, 50} {
		for _, longer := range []int{0, 1, 2, 30} {
			entry := slices.Concat([]byte{7}, noise(longer, 3), []byte{1, 'd'})
			b := slices.Concat([]byte{byte(1 + more), 0, 3, 0, 7, 0, 0, 0}, []byte{9}, noise(more, 2), []byte{byte(1 + longer), 0, 2}, entry, entry, []byte{1, 'n'})
			for at := range 2 {
				c := sceneOf(t, f, slices.Concat(noise(at, 1), b, noise(at, 1)), at)
				c.tells("a", word(9))
				c.tells("c", word(65535))
				c.tells("g[1].x", word(7))
				c.tells("g[1].y", word(255))
				c.tells("g[1].d", api.Told{Text: "d"})
				c.tells("n", api.Told{Text: "n"})
				c.lies("g", api.SpanDim, at+9+more, at+12+more)
				c.lies("g[1].x", api.SpanField, at+15+more+longer, at+16+more+longer)
				c.lies("g[1].d", api.SpanData, at+17+more+2*longer, at+18+more+2*longer)
				if got := c.every(3); got[ok] != 10 || got[api.ErrPath] != 3 || len(got) != 2 {
					t.Errorf("P21.1: %d and %d more: %v", more, longer, got)
				}
			}
		}
	}
}

// P21.1 to P21.3: buffers that are nil, empty and too short, with room behind their length; places in them and outside.
func TestBuffers(t *testing.T) {
	f := made(t, chapter)
	p := planOf(f)
	for _, b := range [][]byte{nil, {}, []byte(sample[:7]), []byte(sample), slices.Concat([]byte("???"), []byte(sample)), slices.Concat([]byte(sample), []byte(newer))} {
		for _, at := range []int{math.MinInt, math.MinInt32, -19, -1, 0, 1, 2, 3, 4, 17, 18, 19, len(b) - 1, len(b), len(b) + 1, 1 << 31, 1 << 32, math.MaxInt - 8, math.MaxInt} {
			got := newScene(t, p, b, at).every(2)
			if at < 0 || at > len(b) {
				if len(got) != 1 || got[api.ErrBuffer] == 0 {
					t.Errorf("P21.1: %d bytes at %d: %v", len(b), at, got)
				}
			} else if at > len(b)-8 && (len(got) != 1 || got[api.ErrShort] == 0) {
				t.Errorf("P21.1: %d bytes at %d: %v", len(b), at, got)
			}
		}
	}
	// A message that goes on in the room behind the buffer isn't whole.
	room := []byte(sample)
	for n := range len(room) {
		if told, e := look.Get(f, room[:n], 0, steps("d")); e != api.ErrShort || !sameTold(told, api.Told{}) {
			t.Errorf("P21.1: Get of d in the first %d bytes = %v, %v", n, told, e)
		}
		if n < 11 {
			refuse(t, "room behind", f, room[:n], 0, steps("a"), []uint64{1}, api.ErrShort)
		}
	}
	if string(room) != sample {
		t.Error("P21.3: the room behind the buffer is written to")
	}
	refuse(t, "nothing", f, nil, 0, steps("a"), []uint64{1}, api.ErrShort)
	refuse(t, "nothing", f, nil, 1, steps("a"), []uint64{1}, api.ErrBuffer)
}

// P21.1: forms as small as they may be.
func TestSmallForms(t *testing.T) {
	header := []byte{0, 0, 3, 0, 7, 0, 0, 0}
	c := sceneOf(t, made(t, ""), header, 0)
	c.wants(api.ErrPath, "M", "a", "")
	c = sceneOf(t, made(t, "k!"), header, 0)
	c.wants(api.ErrPath, "k")
	c = sceneOf(t, made(t, "d$8"), append(slices.Clone(header), 0), 0)
	c.wants(ok, "d")
	c.lies("d", api.SpanData, 9, 9)
	c = sceneOf(t, made(t, "g{8 }"), append(slices.Clone(header), 0, 0, 254), 0)
	c.wants(ok, "g")
	c.tells("g", api.Told{Count: 254})
	c.lies("g", api.SpanDim, 8, 11)
	// Entries without bytes, in which there is something all the same.
	c = sceneOf(t, made(t, "g{8 h{8 } } d$8"), append(slices.Clone(header), 0, 0, 2, 0, 0, 3, 0, 0, 0, 1, 'x'), 0)
	c.tells("g[0].h", api.Told{Count: 3})
	c.tells("g[1].h", api.Told{})
	c.tells("d", api.Told{Text: "x"})
	c.wants(api.ErrPath, "g[2].h")
	c.lies("g[1].h", api.SpanDim, 14, 17)
}
