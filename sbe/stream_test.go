package sbe_test

import (
	"slices"
	"strings"
	"testing"

	"stencil/api"
	"stencil/sbe"
)

// streams asks what a stream must be told as, in one chunk, byte by byte, and with empty chunks between.
func streams(t *testing.T, c *sbe.Codec, again second, reader int, s string, e api.Errno, want ...string) {
	t.Helper()
	var bytes, gaps [][]byte
	for i := range len(s) {
		bytes = append(bytes, []byte(s[i:i+1]))
	}
	for i := 0; i < len(s); i += 11 {
		gaps = append(gaps, nil, []byte(s[i:min(i+11, len(s))]), []byte{})
	}
	for _, chunks := range [][][]byte{{[]byte(s)}, bytes, gaps} {
		if got, err := holdStream(t, c, again, reader, chunks); !slices.Equal(got, want) || err != e {
			t.Errorf("P26.5: Stream(%d, %x) = %q, %v; want %q, %v", reader, s, got, err, want, e)
		}
	}
}

// P26.5: streams of several parcels, with those that are refused between others.
func TestStream(t *testing.T) {
	c, again := both(t, shop)
	one, zero := raw(t, order1), raw(t, order0)
	streams(t, c, again, 1, "", ok)
	streams(t, c, again, 1, framed(60240, one)+framed(60240, zero), ok, "Order "+seen1, "Order "+seen1)
	streams(t, c, again, 0, framed(60240, one)+framed(60240, zero), ok, "Order "+seen0, "Order "+seen0)
	streams(t, c, again, 1, framed(60240, one)+framed(23520, one)+framed(60240, one+"x")+framed(60240, "")+framed(60240, zero), ok, "Order "+seen1, "! E241", "! E240", "! E11", "Order "+seen1)
	// What isn't whole at the end isn't told.
	streams(t, c, again, 1, framed(60240, one)+framed(60240, zero)[:28], ok, "Order "+seen1)
	// The lines ahead of a refusal are told with it, and nothing behind it is.
	streams(t, c, again, 1, framed(60240, one)+"\x00\x00\x00\x05"+framed(60240, one), api.ErrFrameSize, "Order "+seen1)
	streams(t, c, again, 1, framed(60240, one)+"\x00\x00\x00\x06\xeb\x51"+framed(60240, one), api.ErrFrameType, "Order "+seen1)
	streams(t, c, again, 1, "\x00\x00\x00\x05", api.ErrFrameSize)
	if lines, e := c.Stream(1, nil); lines != nil || e != ok {
		t.Errorf("P26.5: of no chunks: %q, %v", lines, e)
	}
}

// P26.5: the errors of a parcel, each with those behind it that hold too.
func TestParcelErrors(t *testing.T) {
	c, again := both(t, shop)
	one := raw(t, order1)
	for _, x := range []struct {
		reader, encoding int
		body, want       string
	}{
		{1, 23520, one, "! E241"}, {1, 23520, "", "! E241"}, {1, 23520, one + "x", "! E241"}, {9, 23520, one, "! E241"}, {-1, 23520, "", "! E241"},
		{2, 60240, one, "! E130"}, {-1, 60240, "", "! E130"}, {2, 60240, one + "x", "! E130"},
		{1, 60240, one[:7], "! E11"}, {1, 60240, one[:24], "! E11"}, {1, 60240, "", "! E11"},
		{1, 60240, raw(t, "0700010008000100"), "! E191"}, {1, 60240, raw(t, "0700020009000100"), "! E260"}, {1, 60240, raw(t, "0700010009000200"), "! E192"}, {1, 60240, raw(t, "0600010009000100") + one[8:] + "x", "! E193"},
		{1, 60240, one + "x", "! E240"}, {0, 60240, one + strings.Repeat("x", 99), "! E240"}, {1, 60240, one + one, "! E240"},
	} {
		streams(t, c, again, x.reader, framed(x.encoding, x.body)+framed(x.encoding, x.body), ok, x.want, x.want)
	}
}

// P26.5: with the highest byte first the encoding is the other one.
func TestBigStream(t *testing.T) {
	c, again := both(t, mixed)
	s := raw(t, late3)
	streams(t, c, again, 3, framed(23520, s)+framed(60240, s)+framed(23520, raw(t, none1))+framed(23520, s+"x"), ok, "Late {b:258 c:7}", "! E241", "None {}", "! E240")
	streams(t, c, again, 1, framed(23520, s)+framed(60240, s)+framed(23520, raw(t, none1)), ok, "! E130", "! E241", "None {}")
	streams(t, c, again, 0, framed(23520, raw(t, none1)), ok, "! E130")
}

// longest is the greatest message that a reader of version 0 sees of the schema longer, and its text: what a later reader sees weighs one byte more.
func longest() (string, string) {
	n := strings.Repeat("x", api.MaxMessage-8-4)
	return "\x00\x00\x01\x00\x07\x00\x00\x00" + "\xf4\xff\x0f\x00" + n, `{n:"` + n + `"}`
}

// P26.5: a parcel of MaxMessage bytes is told, a frame that is one byte longer is refused; what can be read but weighs too much to be printed is told as ErrLong.
func TestLongestParcel(t *testing.T) {
	c, again := both(t, plain(1, "", longer))
	body, text := longest()
	if len(body) != api.MaxMessage {
		t.Fatal(len(body))
	}
	s := framed(60240, body)
	for _, chunks := range [][][]byte{{[]byte(s)}, {[]byte(s[:3]), []byte(s[3:1000]), []byte(s[1000:])}} {
		if lines, e := holdStream(t, c, again, 0, chunks); e != ok || len(lines) != 1 || lines[0] != "M "+text {
			t.Errorf("P26.5: the longest: %d lines, %v", len(lines), e)
		}
		if lines, e := holdStream(t, c, again, 1, chunks); e != ok || !slices.Equal(lines, []string{"! E165"}) {
			t.Errorf("P26.5: the longest at 1: %d lines, %v", len(lines), e)
		}
	}
	s = framed(60240, body+"x")
	if lines, e := holdStream(t, c, again, 0, [][]byte{[]byte(s[:4]), []byte(s[4:])}); e != api.ErrFrameSize || len(lines) != 0 {
		t.Errorf("P26.5: one byte longer: %d lines, %v", len(lines), e)
	}
}
