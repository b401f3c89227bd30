package codec_test

import (
	"bytes"
	"math"
	"slices"
	"strings"
	"testing"

	"stencil/api"
	"stencil/codec"
	"stencil/value"
)

// P20.3: what readers of every version see of bytes of every version: fields that the bytes don't have are null (of a set 0, of a type its own null), groups empty, data "".
func TestReaders(t *testing.T) {
	f := grown(t)
	front := func(version int) string {
		return strings.Join([]string{"M a=9 e=1", "s=0", "p=-2147483648,255", "q=0,0,0"}[:version], " ")
	}
	groups := func(y string) string {
		return " g{ - x=300" + y + " h{ - z=1,2,3 n$nn - z=4,5,6 n$ } m$m - x=301" + y + " h{ } m$ }"
	}
	b := written(t, f, 1, grownTree(1))
	wantTree(t, "1 for 1", f, 1, b, 0, front(1)+groups(""), len(b))
	wantTree(t, "1 for 2", f, 2, b, 0, front(2)+groups("")+" i{ }", len(b))
	wantTree(t, "1 for 3", f, 3, b, 0, front(3)+groups(" y=7")+" i{ } d$", len(b))
	wantTree(t, "1 for 4", f, 4, b, 0, front(4)+groups(" y=7")+" i{ } d$ l$", len(b))

	b = written(t, f, 4, grownTree(4))
	wantTree(t, "4 for 1", f, 1, b, 0, "M a=255 e=3 g{ - x=1 h{ - z=9,8,7 n$n } m$ }", len(b))
	wantTree(t, "4 for 2", f, 2, b, 0, "M a=255 e=3 s=65535 g{ - x=1 h{ - z=9,8,7 n$n } m$ } i{ - v=5 }", len(b))
	wantTree(t, "4 for 3", f, 3, b, 0, "M a=255 e=3 s=65535 p=-2147483648,255 g{ - x=1 y=7 h{ - z=9,8,7 n$n } m$ } i{ - v=5 } d$", len(b))
	wantTree(t, "4 for 4", f, 4, b, 0, "M a=255 e=3 s=65535 p=-2147483648,255 q=65,0,67 g{ - x=1 y=7 h{ - z=9,8,7 n$n } m$ } i{ - v=5 } d$ l$long", len(b))

	for version := 1; version <= 4; version++ {
		for _, f := range []api.Form{f, big(f), wide(f), big(wide(f))} {
			holdVersions(t, f, version, grownTree(version))
		}
	}
}

// P20.3: readers of a version that the message doesn't have, whatever the bytes, and the place in them.
func TestNoReader(t *testing.T) {
	f := grown(t)
	b := written(t, f, 3, grownTree(3))
	for _, reader := range []int{math.MinInt, -1, 0, 5, 6, 65534, 65535, math.MaxInt} {
		for _, bytes := range [][]byte{nil, {}, b, b[:5], noise(40, 1)} {
			for _, at := range []int{math.MinInt, -1, 0, 1, len(bytes), len(bytes) + 1, math.MaxInt} {
				refuseDecode(t, "no reader", f, reader, bytes, at, api.ErrVersion)
			}
		}
	}
}

// P20.3, P20.4: places of a buffer: the message is read where it stands, and nowhere else.
func TestPlacesRead(t *testing.T) {
	f := grown(t)
	p := planOf(f)
	b := written(t, f, 3, grownTree(3))
	for _, ahead := range []int{0, 1, 2, 9, 40} {
		for _, behind := range []int{0, 1, 2, 9, 300} {
			whole := slices.Concat(noise(ahead, 1), b, noise(behind, 2))
			for reader := 1; reader <= 4; reader++ {
				if e := holdDecode(t, p, reader, whole, ahead); e != ok {
					t.Errorf("P20.3: %d bytes ahead and %d behind: %v", ahead, behind, e)
				}
				for at := -2; at < len(whole)+3 && behind < 10; at++ {
					holdDecode(t, p, reader, whole, at)
				}
			}
		}
	}
	for _, at := range []int{math.MinInt, math.MinInt + 1, -len(b), -1, len(b) + 1, math.MaxInt - 7, math.MaxInt} {
		refuseDecode(t, "a place outside", f, 4, b, at, api.ErrBuffer)
	}
	for _, none := range [][]byte{nil, {}} {
		refuseDecode(t, "nothing", f, 4, none, 0, api.ErrShort)
		refuseDecode(t, "nothing", f, 4, none, 1, api.ErrBuffer)
		refuseDecode(t, "nothing", f, 4, none, -1, api.ErrBuffer)
	}
}

// P20.3, P20.4, P20.5: a message cut at every byte, with room behind in which the rest stands, for every reader.
func TestCut(t *testing.T) {
	f := grown(t)
	p := planOf(f)
	for version := 1; version <= 4; version++ {
		b := written(t, f, version, grownTree(version))
		for n := range b {
			for reader := 1; reader <= 4; reader++ {
				refuseDecode(t, "cut", f, reader, b[:n], 0, api.ErrShort)
				refuseDecode(t, "cut", f, reader, append([]byte{0}, b...)[:n+1], 1, api.ErrShort)
				holdDecode(t, p, reader, b[:n], 0)
			}
		}
	}
}

// P20.3 to P20.5: another byte at every place of a message, for every reader; bytes behind it, so that more may be taken.
func TestSpoilt(t *testing.T) {
	f := grown(t)
	p := planOf(f)
	got := map[api.Errno]int{}
	for version := 1; version <= 4; version++ {
		b := append(written(t, f, version, grownTree(version)), make([]byte, 30)...)
		for at := range len(b) - 30 {
			for _, put := range []byte{0, 1, 2, 3, 128, 254, 255, b[at] + 1, b[at] - 1} {
				for reader := 1; reader <= 4; reader++ {
					got[holdDecode(t, p, reader, with(b, at, put), 0)]++
				}
			}
		}
	}
	for _, e := range []api.Errno{ok, api.ErrShort, api.ErrSchemaID, api.ErrTemplate, api.ErrActing, api.ErrBlock, api.ErrCount, api.ErrData, api.ErrLong} {
		if got[e] < 10 {
			t.Errorf("only %d were answered %v", got[e], e)
		}
	}
}

// P20.3: each error of a decoder, and which comes first.
func TestBytesRefused(t *testing.T) {
	f := made(t, chapter)
	b := []byte(sample)
	for _, x := range []struct {
		what string
		b    []byte
		want api.Errno
	}{
		{"another schema", with(b, 4, 8), api.ErrSchemaID},
		{"another schema, template, version and block", with(b, 0, 0, 0, 9, 9, 9, 9, 9, 9), api.ErrSchemaID},
		{"another template", with(b, 2, 4), api.ErrTemplate},
		{"another template, version and block", with(b, 0, 0, 0, 9, 9, 7, 0, 9, 9), api.ErrTemplate},
		{"a version beyond", with(b, 6, 3), api.ErrActing},
		{"a version beyond and a block", with(b, 0, 0, 0, 3, 0, 7, 0, 9, 9), api.ErrActing},
		{"a block too short", with(b, 0, 2), api.ErrBlock},
		{"a block too short for its version", with(b, 6, 2), api.ErrBlock},
		{"a block too long", with(b, 0, 11), api.ErrShort},
		{"the longest block", with(b, 0, 255, 255), api.ErrShort},
		{"an entry too short", with(b, 11, 0), api.ErrBlock},
		{"the null count", with(b, 13, 255), api.ErrCount},
		{"the null count and an entry too short", with(b, 11, 0, 0, 255), api.ErrCount},
		{"too many entries of a length", with(b, 11, 0, 255, 17), api.ErrLong},
		{"an entry too long", with(b, 11, 5), api.ErrShort},
		{"the null length", with(b, 15, 255), api.ErrData},
		{"a text too long", with(b, 15, 3), api.ErrShort},
		{"the longest text", with(b, 15, 254), api.ErrShort},
	} {
		for reader := range 3 {
			refuseDecode(t, x.what, f, reader, x.b, 0, x.want)
			holdDecode(t, planOf(f), reader, slices.Concat(x.b, make([]byte, 9)), 0)
		}
	}
	// What the reader doesn't know is refused by Skip.
	b = []byte(newer)
	for reader := range 3 {
		refuseDecode(t, "the null length of n", f, reader, with(b, 20, 255), 0, api.ErrData)
		refuseDecode(t, "n too long", f, reader, with(b, 20, 1), 0, api.ErrShort)
	}
	// A group with no entry has any block length.
	for length := range byte(3) {
		b = slices.Concat([]byte(sample[:11]), []byte{length, length, 0}, []byte(sample[15:]))
		wantTree(t, "no entries", f, 1, b, 0, "M a=9 b=-2 g{ } d$hi", 17)
	}
}

// P20.3: blocks longer than the form's are passed over, of every version and for every reader.
func TestLongerBlocks(t *testing.T) {
	f := made(t, chapter)
	for more := range byte(6) {
		extra := noise(int(more), 5)
		for _, x := range []struct {
			b    []byte
			said string
		}{
			{slices.Concat([]byte{3 + more}, []byte(sample[1:11]), extra, []byte{1 + more}, []byte(sample[12:15]), extra, []byte(sample[15:])), newerTree},
			{slices.Concat([]byte{5 + more}, []byte(newer[1:13]), extra, []byte{1 + more}, []byte(newer[14:17]), extra, []byte(newer[17:])), newerTree},
		} {
			wantTree(t, "a longer block", f, 2, x.b, 0, x.said, len(x.b))
			wantTree(t, "a longer block", f, 0, x.b, 0, sampleTree, len(x.b))
			for reader := range 3 {
				for at := range len(x.b) {
					holdDecode(t, planOf(f), reader, x.b[:at], 0)
				}
				holdDecode(t, planOf(f), reader, x.b, 0)
				// Turned, it has the form's own blocks.
				want := []string{"\x03\x00\x03\x00\x07\x00\x00\x00" + sample[8:], sample, newer}[reader]
				if s, e := codec.Turn(f, string(x.b), reader); s != want || e != ok {
					t.Errorf("P20.5: Turn to %d = %s, %v; want %s", reader, head(s), e, head(want))
				}
			}
		}
	}
	// In bytes of a version that is older, what lies where a newer field would is none of it.
	b := slices.Concat([]byte{5}, []byte(sample[1:11]), []byte{1, 0}, []byte(sample[11:]))
	wantTree(t, "bytes of an older version", f, 2, b, 0, newerTree, 20)
}

// P20.3: words are told as they stand, whether their types want them or not; bytes that no leaf takes are passed over whatever they are.
func TestAnyWords(t *testing.T) {
	f := made(t, "a:<uint8> b:[uint16] c:char*2 d:float e:int8 f:(uint8,.,uint8) . k!")
	b := slices.Concat([]byte{13, 0, 3, 0, 7, 0, 2, 0}, unhex(t, "ff"+"0080"+"00ff"+"ffffffff"+"80"+"01ee02"+"ee"))
	b[0] = byte(len(b) - 8)
	wantTree(t, "any words", f, 2, b, 0, "M a=255 b=0x8000 c=0,255 d=0xFFFFFFFF e=-128 f=1,2", len(b))
	if s, e := codec.Turn(f, string(b), 2); e != ok || s != string(b[:18])+"\x01\x00\x02\x00" {
		t.Errorf("P20.5: Turn = %s, %v", head(s), e)
	}
}

// P20.3: the tree is one of the reader's form: what calls of layer 16 take.
func TestTreeOfReader(t *testing.T) {
	f := grown(t)
	for version := 1; version <= 4; version++ {
		b := written(t, f, version, grownTree(version))
		for reader := 1; reader <= 4; reader++ {
			m, _, e := codec.Decode(f, reader, b, 0)
			if e != ok {
				t.Fatalf("P20.3: Decode = %v", e)
			}
			if e, i := value.Check(then(t, f, reader), m); e != ok {
				t.Errorf("P20.3: %d for %d: Check = %v, %d", version, reader, e, i)
			}
		}
	}
}

// P20.6: readers and writers of each version of a form without a row, without fields, and with one version alone.
func TestSmallForms(t *testing.T) {
	for _, x := range []struct {
		version    int
		form, tree string
	}{
		{0, "", "M"},
		{0, "k!", "M"},
		{65534, "@65534", "M"},
		{0, "a:uint8", "M a=1"},
		{3, "@3 a:uint8", "M a=1"},
		{0, "g{8 }", "M g{ - - - }"},
		{0, "g{8 h{8 i{8 } } }", "M g{ - h{ - i{ - - } - i{ } } - h{ } }"},
		{0, "d$8", "M d$"},
		{0, "d$8 e$16 f$32", "M d$x e$yy f$zzz"},
		{0, "g{8 d$8 }", "M g{ - d$ - d$x }"},
	} {
		f := madeAt(t, x.version, x.form)
		holdVersions(t, f, x.version, tree(x.tree))
		size, _ := value.Size(f, tree(x.tree))
		holdEncode(t, f, tree(x.tree), size, 0)
		holdEncode(t, f, tree(x.tree), size-1, 0)
		s, _ := codec.Bytes(f, tree(x.tree))
		wantTree(t, x.form, f, x.version, []byte(s), 0, x.tree, size)
	}
}

// P20.3: nests as deep as they may be.
func TestDeepest(t *testing.T) {
	form, said, close := "", "M", ""
	for i := range api.MaxNest {
		name := string(rune('a' + i))
		form += name + "{8 x:uint8 "
		said += " " + name + "{ - x=" + string(rune('1'+i))
		close += " }"
	}
	f := made(t, form+close)
	holdVersions(t, f, 2, tree(said+close))
	s, e := codec.Bytes(f, tree(said+close))
	if e != ok || len(s) != 8+api.MaxNest*4 || !bytes.Contains([]byte(s), []byte{1, 0, 1, 5, 1, 0, 1, 6}) {
		t.Errorf("P20.2: Bytes = %s, %v", head(s), e)
	}
}
