package codec_test

import (
	"encoding/binary"
	"slices"
	"strings"
	"testing"

	"stencil/api"
	"stencil/codec"
	"stencil/value"
)

// heavy is a tree by words that weighs so much, with a text in its first data of that name by which it weighs just MaxMessage, or some bytes more.
func heavy(said, name string, weight, more int) []api.Val {
	m := tree(said)
	i := slices.IndexFunc(m, func(v api.Val) bool { return v.Name == name })
	m[i].Text = strings.Repeat("x", api.MaxMessage-weight+more)
	return m
}

// P20.1, P20.2, P20.6: a tree that weighs just MaxMessage is written, and read by every reader; one that weighs one more isn't. A block weighs as much as it has in the whole schema.
func TestWeight(t *testing.T) {
	for _, x := range []struct {
		form, tree, name string
		version, weight  int
	}{
		{"d$32", "M d$", "d", 2, 8 + 4},
		{"a:uint8*100 d$32", "M a=" + strings.Repeat("1,", 99) + "1 d$", "d", 2, 8 + 100 + 4},
		{"a:uint8 +50000 d$32", "M a=1 d$", "d", 2, 8 + 50001 + 4},
		{"a:uint8 b@1:uint8*9 c@2:uint16 d$32", "M a=1 d$", "d", 0, 8 + 12 + 4},
		{"a:uint8 b@1:uint8*9 c@2:uint16 d$32", "M a=1 b=1,2,3,4,5,6,7,8,9 d$", "d", 1, 8 + 12 + 4},
		{"g{8 x:uint8 y@1:uint64 +20 } d$32", "M g{ - x=1 - x=2 } d$", "d", 0, 8 + 3 + 2*29 + 4},
		{"g{8 x:uint8 h{16 +1000 } e$8 } d$32", "M g{ - x=1 h{ - - } e$eee - x=2 h{ } e$ } d$", "d", 1, 8 + 3 + 2*1 + 2*4 + 2*1000 + 1 + 3 + 1 + 4},
		{"g{8 e$32 } d$32", "M g{ - e$ - e$yyy } d$zz", "e", 2, 8 + 3 + 4 + 4 + 3 + 4 + 2},
	} {
		for _, f := range []api.Form{made(t, x.form), big(made(t, x.form))} {
			g := then(t, f, x.version)
			m := heavy(x.tree, x.name, x.weight, 0)
			size, e := value.Size(g, m)
			if e != ok {
				t.Fatalf("%s: %v", x.form, e)
			}
			if e := holdEncode(t, g, m, size, 0); e != ok {
				t.Errorf("P20.1: %s: a message of just MaxMessage: %v", x.form, e)
			}
			holdEncode(t, g, m, size-1, 0)
			holdVersions(t, f, x.version, m)
			for _, more := range []int{1, 2, 1000} {
				refuseEncode(t, x.form, g, heavy(x.tree, x.name, x.weight, more), api.ErrLong)
			}
		}
	}
}

// put32 are a number's four bytes.
func put32(n int) []byte { return binary.LittleEndian.AppendUint32(nil, uint32(n)) }

// P20.3 to P20.5: bytes that weigh just MaxMessage are read, those that weigh one more aren't: by a text, by a block that is longer than the form's, by entries that are.
func TestWeightRead(t *testing.T) {
	f := wide(made(t, "a:uint8 +9 g{8 x:uint8 +3 } d$32"))
	front := func(block int) []byte {
		return slices.Concat(put32(block), put32(3), put32(7), put32(2), make([]byte, block))
	}
	dim := func(length, n int) []byte {
		return slices.Concat(put32(length), []byte{byte(n)}, make([]byte, n*length))
	}
	text := func(n int) []byte { return append(put32(n), make([]byte, n)...) }
	// The least that a message weighs, in all: its header, block and dimension, and the length of its text.
	const least = 16 + 10 + 5 + 4
	for more, want := range []api.Errno{ok, api.ErrLong} {
		for _, b := range [][]byte{
			slices.Concat(front(1), dim(1, 0), text(api.MaxMessage-least+more)),
			slices.Concat(front(10), dim(1, 0), text(api.MaxMessage-least+more)),
			slices.Concat(front(11), dim(1, 0), text(api.MaxMessage-least-1+more)),
			slices.Concat(front(1), dim(1, 2), text(api.MaxMessage-least-8+more)),
			slices.Concat(front(1), dim(4, 2), text(api.MaxMessage-least-8+more)),
			slices.Concat(front(1), dim(5, 2), text(api.MaxMessage-least-10+more)),
			slices.Concat(front(api.MaxMessage-least+10+more), dim(1, 0), text(0)),
			slices.Concat(front(1), dim(api.MaxMessage-least+more, 1), text(0)),
			slices.Concat(front(500000), dim((api.MaxMessage-least-499990)/2, 2), text(more+(api.MaxMessage-least-499990)%2)),
		} {
			for reader := range 3 {
				if e := holdDecode(t, planOf(f), reader, b, 0); e != want {
					t.Errorf("P20.3: %s, %d more: %v; want %v", head(b), more, e, want)
				}
			}
		}
	}
	// A budget that is passed is told ahead of bytes that are missing.
	refuseDecode(t, "a text too long", f, 2, slices.Concat(front(1), dim(1, 0), put32(api.MaxMessage-least+1)), 0, api.ErrLong)
	refuseDecode(t, "a text too long", f, 2, slices.Concat(front(1), dim(1, 0), put32(api.MaxMessage-least)), 0, api.ErrShort)
	refuseDecode(t, "a block too long", f, 2, with(front(1), 0, put32(api.MaxMessage-15)...), 0, api.ErrLong)
	refuseDecode(t, "a block too long", f, 2, with(front(1), 0, put32(api.MaxMessage-16)...), 0, api.ErrShort)
	refuseDecode(t, "the longest block", f, 2, with(front(1), 0, put32(-1)...), 0, api.ErrLong)
}

// entriesOf are a tree's words of so many entries without anything in them.
func entriesOf(n int) string { return "{" + strings.Repeat(" -", n) + " }" }

// P20.1, P20.6: counts that are together just MaxEntries, and one more, in groups of one row and in groups of groups.
func TestEntries(t *testing.T) {
	const half = api.MaxEntries / 2
	for _, x := range []struct {
		form string
		tree func(more int) string
	}{
		{"g{32 }", func(more int) string { return "M g" + entriesOf(api.MaxEntries+more) }},
		{"g{16 } h{16 }", func(more int) string { return "M g" + entriesOf(half) + " h" + entriesOf(half+more) }},
		{"g{16 } h{16 } i{8 }", func(more int) string {
			return "M g" + entriesOf(half) + " h" + entriesOf(half-1) + " i" + entriesOf(1+more)
		}},
		{"g{8 h{16 } }", func(more int) string { return "M g{ - h" + entriesOf(half-1) + " - h" + entriesOf(half-1+more) + " }" }},
		{"g{8 h{16 } } i@1{8 } d@2$8", func(more int) string {
			return "M g{ - h" + entriesOf(half-1) + " - h" + entriesOf(half-11) + " } i" + entriesOf(10+more) + " d$"
		}},
	} {
		f := made(t, x.form)
		m := tree(x.tree(0))
		holdVersions(t, f, 2, m)
		size, _ := value.Size(f, m)
		if e := holdEncode(t, f, m, size+1, 1); e != ok {
			t.Errorf("P20.1: %s: MaxEntries: %v", x.form, e)
		}
		refuseEncode(t, x.form, f, tree(x.tree(1)), api.ErrEntries)
		refuseEncode(t, x.form, f, tree(x.tree(7)), api.ErrEntries)
	}
}

// P20.3, P20.4: counts in bytes that are together just MaxEntries, and one more; of groups that the reader doesn't know too.
func TestEntriesRead(t *testing.T) {
	f := made(t, "g{32 } h@1{32 } i@2{8 }")
	front := []byte{0, 0, 3, 0, 7, 0, 2, 0}
	dims := func(g, h, i int) []byte {
		return slices.Concat(front, []byte{0, 0}, put32(g), []byte{0, 0}, put32(h), []byte{0, 0, byte(i)})
	}
	const most = api.MaxEntries
	p := planOf(f)
	for reader := range 3 {
		for _, x := range [][3]int{{most, 0, 0}, {1, most - 1, 0}, {most - 300, 100, 200}} {
			if e := holdDecode(t, p, reader, dims(x[0], x[1], x[2]), 0); e != ok {
				t.Errorf("P20.3: %d for %d: %v", x, reader, e)
			}
			for k := range x[:2] {
				y := x
				y[k]++
				if y[0]+y[1] > most || x[2] > 0 {
					refuseDecode(t, "one more", f, reader, dims(y[0], y[1], y[2]), 0, api.ErrEntries)
				}
			}
		}
		refuseDecode(t, "one more", f, reader, dims(most, 0, 1), 0, api.ErrEntries)
		refuseDecode(t, "one more", f, reader, dims(most+1, 0, 0), 0, api.ErrEntries)
		refuseDecode(t, "the greatest count", f, reader, dims(1<<32-2, 0, 0), 0, api.ErrEntries)
		refuseDecode(t, "the null count", f, reader, dims(1<<32-1, 0, 0), 0, api.ErrCount)
		refuseDecode(t, "the null count", f, reader, dims(most, 1<<32-1, 0), 0, api.ErrCount)
		refuseDecode(t, "the null count", f, reader, dims(most, 0, 255), 0, api.ErrCount)
	}
}

// P20.3, P20.5, P20.6: a tree may weigh too much for a later reader, by what the bytes don't have: it is read all the same, and can't be turned.
func TestTooHeavyForLater(t *testing.T) {
	for _, x := range []struct {
		form, tree string
		weight     int
		fits       []int // the versions to which it may be turned
	}{
		{"a:uint8 d$32 n@2$8", "M a=1 d$", 8 + 1 + 4, []int{0, 1}},
		{"a:uint8 b@1:uint8*30 d$32 e@2$32", "M a=1 d$", 8 + 31 + 4, []int{0, 1}},
		{"d$32 e@1$8 n@2$8", "M d$", 8 + 4, []int{0}},
		{"g{8 e$32 } h@2{8 x:uint8 }", "M g{ - e$ }", 8 + 3 + 4, []int{0, 1}},
	} {
		f := made(t, x.form)
		name := "d"
		if x.form[0] == 'g' {
			name = "e"
		}
		m := heavy(x.tree, name, x.weight, 0)
		holdVersions(t, f, 0, m)
		s, e := codec.Bytes(then(t, f, 0), m)
		if e != ok {
			t.Fatalf("%s: Bytes: %v", x.form, e)
		}
		for to := range 3 {
			want := ok
			if !slices.Contains(x.fits, to) {
				want = api.ErrLong
			}
			seen, n, e := codec.Decode(f, to, []byte(s), 0)
			if _, size := value.Size(then(t, f, to), seen); e != ok || n != len(s) || size != want {
				t.Errorf("P20.3: %s: Decode for %d = %d, %v; it weighs: %v, want %v", x.form, to, n, e, size, want)
			}
			if got, e := codec.Turn(f, s, to); e != want || (got == "") != (want != ok) {
				t.Errorf("P20.5: %s: Turn to %d = %s, %v; want %v", x.form, to, head(got), e, want)
			}
		}
		if n, e := codec.Length(f, []byte(s), 0); n != len(s) || e != ok {
			t.Errorf("P20.4: %s: Length = %d, %v", x.form, n, e)
		}
		// With some bytes less there is room for what came later.
		less := heavy(x.tree, name, x.weight, -10)
		holdVersions(t, f, 0, less)
		s, _ = codec.Bytes(then(t, f, 0), less)
		if got, e := codec.Turn(f, s, 2); e != ok || len(got) <= len(s) {
			t.Errorf("P20.5: %s: Turn to 2 = %s, %v", x.form, head(got), e)
		}
	}
}
