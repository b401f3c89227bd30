package look_test

import (
	"fmt"
	"strings"
	"testing"

	"stencil/api"
	"stencil/codec"
	"stencil/look"
)

// wantAll asks all of one path in great bytes, which the second look would be slow with.
func wantAll(t *testing.T, f api.Form, b []byte, said string, want api.Told) {
	t.Helper()
	told, e := look.Get(f, b, 0, steps(said))
	if e != ok || !sameTold(told, want) {
		t.Errorf("P21.1: Get of %s = %.99v, %v; want %.99v", said, told, e, want)
	}
	if span, e := look.Where(f, b, 0, steps(said)); e != ok || span.To > len(b) {
		t.Errorf("P21.2: Where of %s = %v, %v", said, span, e)
	}
	if len(want.Words) > 0 {
		if e := look.Set(f, b, 0, steps(said), want.Words); e != ok {
			t.Errorf("P21.3: Set of %s = %v", said, e)
		}
	}
}

// The chapter's Limits: the work is about linear in the form and the bytes up to the thing: of many fields, constants and entries each call ends soon.
func TestManyOfAll(t *testing.T) {
	var form, said strings.Builder
	said.WriteString("M")
	for i := range 20000 {
		fmt.Fprintf(&form, "f%d:uint8 ", i)
		fmt.Fprintf(&said, " f%d=%d", i, i%200)
	}
	// Constants in an entry are no work for each of the entries.
	form.WriteString("g{32 x:uint8 ")
	for i := range 20000 {
		fmt.Fprintf(&form, "k%d! ", i)
	}
	form.WriteString("h{8 } } d$8")
	const n = 60000
	said.WriteString(" g{" + strings.Repeat(" - x=7 h{ }", n) + " } d$d")
	f := made(t, form.String())
	s, e := codec.Bytes(f, tree(said.String()))
	if e != ok {
		t.Fatalf("Bytes: %v", e)
	}
	b := []byte(s)
	wantAll(t, f, b, "f0", word(0))
	wantAll(t, f, b, "f19999", word(199))
	wantAll(t, f, b, "g", api.Told{Count: n})
	wantAll(t, f, b, fmt.Sprintf("g[%d].x", n-1), word(7))
	wantAll(t, f, b, fmt.Sprintf("g[%d].h", n-1), api.Told{})
	wantAll(t, f, b, "d", api.Told{Text: "d"})
	if string(b) != s {
		t.Error("P21.3: Set to the words that stand there has changed something")
	}
	refuse(t, "an entry too many", f, b, 0, steps(fmt.Sprintf("g[%d].x", n)), []uint64{1}, api.ErrPath)
	refuse(t, "a name that is none", f, b, 0, steps("g[3].f0"), []uint64{1}, api.ErrPath)
}

// The chapter's Limits: as many entries as may be, without a byte each.
func TestEntriesOfNothing(t *testing.T) {
	f := made(t, "g{32 } h{32 } d$8")
	b := append([]byte{0, 0, 3, 0, 7, 0, 0, 0}, 0, 0, 0xFF, 0xFF, 0, 0, 0, 0, 1, 0, 0, 0, 1, 'd')
	wantAll(t, f, b, "g", api.Told{Count: 65535})
	wantAll(t, f, b, "h", api.Told{Count: 1})
	wantAll(t, f, b, "d", api.Told{Text: "d"})
}

// The chapter's Limits: many groups and data in the row of a message.
func TestManyMembers(t *testing.T) {
	var form, said strings.Builder
	said.WriteString("M")
	const n = 15000
	for i := range n {
		fmt.Fprintf(&form, "g%d{8 x:uint8 } ", i)
		fmt.Fprintf(&said, " g%d{ - x=%d - x=1 }", i, i%200)
	}
	for i := range n {
		fmt.Fprintf(&form, "d%d$8 ", i)
		fmt.Fprintf(&said, " d%d$%d", i, i)
	}
	f := made(t, form.String())
	s, e := codec.Bytes(f, tree(said.String()))
	if e != ok {
		t.Fatalf("Bytes: %v", e)
	}
	b := []byte(s)
	wantAll(t, f, b, "g0[1].x", word(1))
	wantAll(t, f, b, fmt.Sprintf("g%d[0].x", n-1), word(199))
	wantAll(t, f, b, "d0", api.Told{Text: "0"})
	wantAll(t, f, b, fmt.Sprintf("d%d", n-1), api.Told{Text: fmt.Sprint(n - 1)})
}

// The chapter's Limits: a field of as many elements as a block has room for.
func TestLongField(t *testing.T) {
	f := made(t, "a:uint8 v:(char*30000,.,uint8*30000) z:uint8")
	f = wide(f)
	b := make([]byte, 16+60003)
	copy(b, "\x63\xea\x00\x00\x03\x00\x00\x00\x07\x00\x00\x00\x00\x00\x00\x00")
	words := make([]uint64, 60000)
	for i := range words {
		words[i] = uint64(i % 256)
	}
	wantAll(t, f, b, "z", word(0))
	if e := look.Set(f, b, 0, steps("v"), words); e != ok {
		t.Fatalf("P21.3: Set of v = %v", e)
	}
	wantAll(t, f, b, "v", api.Told{Words: words})
	for i, w := range b[17:47017] {
		want := byte(i)
		if i > 30000 {
			want = byte(i - 1)
		}
		if i != 30000 && w != want || i == 30000 && w != 0 {
			t.Fatalf("P21.3: the byte %d of v is %d", i, w)
		}
	}
	words[59999] = 256
	if e := look.Set(f, b, 0, steps("v"), words); e != api.ErrFit {
		t.Errorf("P21.3: Set of v with a last word that doesn't fit = %v", e)
	}
}
