package sbe_test

import (
	"slices"
	"strings"
	"testing"

	"stencil/api"
)

// P26.6: scripts at places of buffers, at both versions, with calls that are refused.
func TestRun(t *testing.T) {
	c, again := both(t, shop)
	const lines = "field side 2\nfield num 258\ndata note \"hi\"\nfield tip 0xFFFFFFFFFFFF8000\ngroup legs 2\nnext\nfield qty 3\nnext\nfield qty 4\n# the end\n\ndata note \"hi\"\n"
	runs := func(version, size, at int, calls, want, digits string) {
		t.Helper()
		buffer := strings.Repeat("\xee", size)
		got, b, e := holdRun(t, c, again, "Order", version, buffer, at, calls)
		if strings.Join(got, "\n") != want || e != ok || len(b) != size {
			t.Errorf("P26.6: Run tells %q, %d bytes, %v; want %q", got, len(b), e, want)
		}
		s := raw(t, digits)
		if at < 0 || at > size {
			at, s = 0, ""
		}
		if b != buffer[:at]+s+buffer[at+len(s):] {
			t.Errorf("P26.6: Run writes %x", b)
		}
	}
	runs(1, 25, 0, lines, "ok 15\nok 15\nok 15\n! E140\nok 15\nok 18\nok 20\nok 20\nok 22\nok 22\nok 25\ndone", order1)
	runs(1, 40, 7, lines, "ok 22\nok 22\nok 22\n! E140\nok 22\nok 25\nok 27\nok 27\nok 29\nok 29\nok 32\ndone", order1)
	runs(0, 30, 1, lines, "ok 14\nok 14\nok 14\n! E140\n! E140\nok 17\nok 19\nok 19\nok 21\nok 21\nok 24\ndone", order0)
	runs(1, 25, 1, lines, "ok 16\nok 16\nok 16\n! E140\nok 16\nok 19\nok 21\nok 21\nok 23\nok 23\n! E11\nopen", order1[:44])
	runs(1, 15, 0, "", "ok 15\nopen", "0700010009000100eeeeeeeeeeeeee")
	runs(1, 14, 0, lines, "! E11", "")
	runs(1, 0, 0, lines, "! E11", "")
	runs(1, 30, -1, lines, "! E170", "")
	runs(1, 30, 31, lines, "! E170", "")
	runs(1, 25, 0, "jump\nfield\nfield num x\nfield num 4294967296", "ok 15\n! E250\n! E250\n! E30\n! E162\nopen", "0700010009000100eeeeeeeeeeeeee")
	for _, buffer := range [][]byte{nil, {}} {
		if got, b, e := c.Run("Order", 1, buffer, 0, lines); !slices.Equal(got, []string{"! E11"}) || len(b) != 0 || e != ok {
			t.Errorf("P26.6: of no buffer: %q, %x, %v", got, b, e)
		}
	}
}

// P26.6: the buffer that is handed in stays, the room behind it too, and the copy has none of its memory.
func TestRunLeavesTheBuffer(t *testing.T) {
	c := load(t, shop)
	for size := range 40 {
		whole := slices.Repeat([]byte{0xEE}, 60)
		lines, b, e := c.Run("Order", 1, whole[5:5+size], 2, "field num 7\ngroup legs\ndata note \"hello, and more of it\"")
		if e != ok || len(b) != size || len(lines) == 0 {
			t.Errorf("P26.6: Run of %d bytes: %q, %x, %v", size, lines, b, e)
		}
		all := b[:cap(b)]
		for i := range all {
			all[i] = 1
		}
		if strings.Trim(string(whole), "\xee") != "" {
			t.Fatalf("P26.6: of %d bytes some are written: %x", size, whole)
		}
	}
	if _, _, e := c.Run("Offer", 1, nil, 0, ""); e != api.ErrMessage {
		t.Errorf("P26.6: no message: %v", e)
	}
}
