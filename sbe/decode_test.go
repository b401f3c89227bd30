package sbe_test

import (
	"strings"
	"testing"

	"stencil/api"
	"stencil/sbe"
)

// The beginnings of messages of the schema mixed: its header's eleven bytes, with those that no number has at 0.
const (
	lateHead  = "03 00 0000ffff 0003 00 012c"
	late3     = lateHead + "0102 07"
	late2     = "02 00 0000ffff 0002 00 012c 0102"
	none1     = "01 00 00000000 0003 00 012c 000000"
	otherBook = "03 00 0000ffff 0003 00 012d"
	noMessage = "03 00 0000fffe 0003 00 012c"
)

// decodeFails asks for the error with which bytes, as hex, are refused, beside which there is nothing.
func decodeFails(t *testing.T, c *sbe.Codec, reader int, digits string, want api.Errno) {
	t.Helper()
	if name, m, n, e := c.Decode(reader, raw(t, digits)); name != "" || m != nil || n != 0 || e != want {
		t.Errorf("P26.4: Decode(%d, %s) = %q, %v, %d, %v; want %v", reader, digits, name, m, n, e, want)
	}
}

// decodes asks for a message's name, how many fields, groups and data its tree has, and its size; what stands behind it makes no difference.
func decodes(t *testing.T, c *sbe.Codec, reader int, digits, name string, parts, size int) {
	t.Helper()
	for _, behind := range []string{"", "x", strings.Repeat("\xff", 300)} {
		got, m, n, e := c.Decode(reader, raw(t, digits)+behind)
		if got != name || len(m) != 1+parts || n != size || e != ok {
			t.Errorf("P26.4: Decode(%d, %s) = %q, %v, %d, %v; want %s, %d parts, %d", reader, digits, got, m, n, e, name, parts, size)
		}
	}
}

// P26.4: each message is told by its header, whichever it is.
func TestDecode(t *testing.T) {
	c := load(t, mixed)
	decodes(t, c, 3, late3, "Late", 2, 14)
	decodes(t, c, 2, late3, "Late", 1, 14)
	decodes(t, c, 3, late2, "Late", 2, 13)
	decodes(t, c, 1, none1, "None", 0, 14)
	decodes(t, c, 3, none1, "None", 0, 14)
	_, m, _, _ := c.Decode(3, raw(t, late2))
	if m[1].Words[0] != 258 || m[2].Words[0] != 255 {
		t.Errorf("P26.4: the tree is %v", m)
	}
}

// P26.4: the errors, each with those behind it that hold too.
func TestDecodeErrors(t *testing.T) {
	c := load(t, mixed)
	for _, reader := range []int{-1, 4, 99, -1 << 62} {
		for _, digits := range []string{"", lateHead[:8], otherBook, noMessage, lateHead, late3} {
			decodeFails(t, c, reader, digits, api.ErrVersion)
		}
	}
	for reader := range 4 {
		head := strings.ReplaceAll(otherBook, " ", "")
		for n := 0; n < len(head); n += 2 {
			decodeFails(t, c, reader, head[:n], api.ErrShort)
		}
		decodeFails(t, c, reader, otherBook, api.ErrSchemaID)
		decodeFails(t, c, reader, "09 00 0000fffe 0000 00 012d", api.ErrSchemaID)
		decodeFails(t, c, reader, noMessage, api.ErrMessage)
		decodeFails(t, c, reader, "09 00 0000fffe 0000 00 012c", api.ErrMessage)
	}
	// A message that the reader's version doesn't have is told as such behind its header alone, ahead of what else is wrong with it.
	for _, digits := range []string{late3, lateHead, "09 00 0000ffff 0000 00 012c"} {
		decodeFails(t, c, 1, digits, api.ErrVersion)
		decodeFails(t, c, 0, digits, api.ErrVersion)
	}
	decodeFails(t, c, 0, none1, api.ErrVersion)
	decodeFails(t, c, 3, "09 00 0000ffff 0000 00 012c", api.ErrActing)
	decodeFails(t, c, 3, "01 00 0000ffff 0000 00 012c", api.ErrActing)
	decodeFails(t, c, 3, "03 00 0000ffff 0002 00 012c", api.ErrBlock)
	decodeFails(t, c, 3, lateHead, api.ErrShort)
	decodeFails(t, c, 3, lateHead+"0102", api.ErrShort)
	decodeFails(t, load(t, bare), 0, "00000000", api.ErrMessage)
	decodeFails(t, load(t, bare), 0, "00000100", api.ErrSchemaID)
	decodeFails(t, load(t, bare), 0, "000001", api.ErrShort)
}

// P26.4: numbers of the header in bytes that none of its numbers has make no difference; and a number of four bytes counts whole.
func TestHeaderNumbers(t *testing.T) {
	c := load(t, mixed)
	decodes(t, c, 3, "03 ff 0000ffff 0003 ff 012c 0102 07", "Late", 2, 14)
	decodeFails(t, c, 3, "03 00 0001ffff 0003 00 012c 0102 07", api.ErrMessage)
	decodeFails(t, c, 3, "03 00 ff00ffff 0003 00 012c 0102 07", api.ErrMessage)
	decodeFails(t, c, 3, "03 00 ffff0000 0003 00 012c 0102 07", api.ErrMessage)
	decodeFails(t, c, 3, "03 00 0000ffff 0003 00 2c01 0102 07", api.ErrSchemaID)
}

// P26.4: a message of each kind, all that it begins with, and each of its bytes with each value, for all readers.
func TestEachByte(t *testing.T) {
	seen := map[api.Errno]int{}
	for text, messages := range map[string][]string{shop: {order0, order1}, mixed: {late3, late2, none1}} {
		c, again := both(t, text)
		for _, digits := range messages {
			s := raw(t, digits)
			for reader := -1; reader <= again.s.Version+1; reader++ {
				for i := range len(s) {
					_, _, _, e := holdDecode(t, c, again, reader, s[:i])
					seen[e]++
					for v := range 256 {
						if reader >= 0 && i > 8 && v%5 != reader {
							continue
						}
						_, _, _, e := holdDecode(t, c, again, reader, s[:i]+string([]byte{byte(v)})+s[i+1:])
						seen[e]++
					}
				}
			}
		}
	}
	for e, least := range map[api.Errno]int{ok: 1000, 11: 100, 130: 1000, 191: 1000, 192: 500, 193: 2, 260: 1000} {
		if seen[e] < least {
			t.Errorf("only %d times %v: %v", seen[e], e, seen)
		}
	}
}

// P26.3: the bytes of a tree, and the errors of trees behind those of Form.
func TestEncode(t *testing.T) {
	c, again := both(t, shop)
	_, m, _, _ := c.Decode(1, raw(t, order1))
	_, old, _, _ := c.Decode(0, raw(t, order1))
	if s, e := holdEncode(t, c, again, "Order", 1, m); s != raw(t, order1) || e != ok {
		t.Errorf("P26.3: Encode = %x, %v", s, e)
	}
	if s, e := holdEncode(t, c, again, "Order", 0, old); s != raw(t, order0) || e != ok {
		t.Errorf("P26.3: Encode at 0 = %x, %v", s, e)
	}
	for name, errs := range map[string][]api.Errno{"Order": {130, 160, 160, 130}, "order": {260, 260, 260, 260}} {
		for i, want := range errs {
			if s, e := holdEncode(t, c, again, name, i-1, nil); s != "" || e != want {
				t.Errorf("P26.3: Encode(%s, %d) of no tree = %q, %v", name, i-1, s, e)
			}
		}
	}
	if _, e := holdEncode(t, c, again, "Order", 0, m); e != api.ErrTree {
		t.Errorf("P26.3: the newer tree: %v", e)
	}
	m[1].Words[0] = 1 << 32
	if _, e := holdEncode(t, c, again, "Order", 1, m); e != api.ErrFit {
		t.Errorf("P26.3: a word too great: %v", e)
	}
	m[1].Words = nil
	if _, e := holdEncode(t, c, again, "Order", 1, m); e != api.ErrWords {
		t.Errorf("P26.3: no word: %v", e)
	}
	m[0].Name = "Other"
	if _, e := holdEncode(t, c, again, "Order", 1, m); e != api.ErrTree {
		t.Errorf("P26.3: another message's tree: %v", e)
	}
	if s, e := load(t, mixed).Encode("None", 1, []api.Val{{Depth: 1, Name: "None"}}); s != raw(t, none1) || e != ok {
		t.Errorf("P26.3: Encode of None = %x, %v", s, e)
	}
}
