package script_test

import (
	"testing"

	"stencil/api"
	"stencil/script"
)

// P25.1: the chapter's example 1.
func TestExampleCalls(t *testing.T) {
	means(t, "field price 100,5", field("price", 100, 5))
	means(t, "  field  price ", field("price"))
	means(t, "group legs 2", group("legs", 2))
	means(t, "group legs", group("legs", 0))
	means(t, "next", next())
	means(t, `data note "a b"`, data("note", "a b"))
	means(t, "data note", data("note", ""))
}

// P25.1: the chapter's example 2.
func TestExampleFaults(t *testing.T) {
	refuses(t, "", api.ErrLine, 0)
	refuses(t, "  ", api.ErrLine, 2)
	refuses(t, " jump", api.ErrLine, 1)
	refuses(t, "field", api.ErrLine, 5)
	refuses(t, "field 1a", api.ErrLine, 6)
	refuses(t, "field a x", api.ErrNumber, 8)
	refuses(t, "field a 1,", api.ErrNumber, 10)
	refuses(t, "field a 1 2", api.ErrLine, 10)
	refuses(t, "group g -1", api.ErrNumber, 8)
	refuses(t, "next x", api.ErrLine, 5)
	refuses(t, "data d x", api.ErrQuote, 7)
	refuses(t, `data d "a" b`, api.ErrLine, 11)
	refuses(t, `data d "a"b`, api.ErrLine, 10)
}

// P25.2: the chapter's example 3.
func TestExampleLines(t *testing.T) {
	prints(t, field("a", 1, 2), "field a 1,2")
	prints(t, field("a"), "field a")
	prints(t, group("g", 0), "group g 0")
	prints(t, data("d", "x"), `data d "x"`)
	noLine(t, api.Call{Kind: api.CallNext, Name: "a"})
	noLine(t, group("g", -1))
	noLine(t, api.Call{Kind: api.CallData, Name: "d", Words: []uint64{1}})
}

// P25.3: the chapter's example 4.
func TestExampleTold(t *testing.T) {
	for _, x := range []struct {
		kind api.CallKind
		told api.Told
		err  api.Errno
		want string
	}{
		{api.CallField, api.Told{Words: []uint64{7, 8}}, ok, "= 7,8"},
		{api.CallField, api.Told{}, ok, "="},
		{api.CallGroup, api.Told{Count: 3}, ok, "= 3"},
		{api.CallData, api.Told{Text: "a"}, ok, `= "a"`},
		{api.CallNext, api.Told{}, ok, "ok"},
		{api.CallNext, api.Told{}, api.ErrOrder, "! E140"},
	} {
		if s := script.Told(api.Call{Kind: x.kind}, x.told, x.err); s != x.want {
			t.Errorf("P25.3: Told = %q, not %q", s, x.want)
		}
	}
}

// P25.4: the chapter's example 5.
func TestExampleWrite(t *testing.T) {
	f := little(t, 1, chapter)
	const lines = "field a 7\n# x\nnext\ndata d \"hi\""
	b := writes(t, f, 12, 0, lines, "ok 9\nok 9\n! E140\nok 12\ndone")
	if b != "\x01\x00\x03\x00\x07\x00\x01\x00\x07\x02hi" {
		t.Errorf("P25.4: the bytes are %q", b)
	}
	b = writes(t, f, 11, 0, lines, "ok 9\nok 9\n! E140\n! E11\nopen")
	if b != "\x01\x00\x03\x00\x07\x00\x01\x00\x07\xff\xff" {
		t.Errorf("P25.4: the bytes are %q", b)
	}
	b = writes(t, f, 8, 0, lines, "! E11")
	if b != "\xff\xff\xff\xff\xff\xff\xff\xff" {
		t.Errorf("P25.4: the bytes are %q", b)
	}
}
