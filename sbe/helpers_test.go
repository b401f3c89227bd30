package sbe_test

import (
	"encoding/hex"
	"reflect"
	"slices"
	"strconv"
	"strings"
	"testing"

	"stencil/api"
	"stencil/sbe"
)

const ok = api.OK

func load(t testing.TB, text string) *sbe.Codec {
	t.Helper()
	c, fault := sbe.Load(text)
	if c == nil || fault != (api.Fault{}) {
		t.Fatalf("P26.1: Load of %s: %v", short(text), fault)
	}
	return c
}

// both are a codec and the second look at its schema.
func both(t testing.TB, text string) (*sbe.Codec, second) {
	t.Helper()
	return load(t, text), secondOf(t, text)
}

// short is a text for a report.
func short(s string) string {
	q := strconv.QuoteToASCII(s)
	return q[:min(len(q), 500)]
}

// raw are the bytes that hex digits with blanks between them say.
func raw(t testing.TB, digits string) string {
	t.Helper()
	b, err := hex.DecodeString(strings.ReplaceAll(digits, " ", ""))
	if err != nil {
		t.Fatal(err)
	}
	return string(b)
}

func hexOf(s string) string { return hex.EncodeToString([]byte(s)) }

// says asks what a talk about a schema must tell.
func says(t *testing.T, schema, lines, want string) {
	t.Helper()
	if got, fault := sbe.Dialog(schema, lines); got != want || fault != (api.Fault{}) {
		t.Errorf("P26.7: %s tells %s, %v\nwant %s", short(lines), short(got), fault, short(want))
	}
}

// shopSays asks what one line about the shop must tell.
func shopSays(t *testing.T, line, want string) {
	t.Helper()
	says(t, shop, line, want+"\n")
}

// sameNodes tells whether two trees are alike, where no list is an empty one.
func sameNodes(m, n []api.Val) bool {
	return slices.EqualFunc(m, n, func(v, w api.Val) bool {
		return v.Depth == w.Depth && v.Kind == w.Kind && v.Name == w.Name && slices.Equal(v.Words, w.Words) && v.Text == w.Text
	})
}

func sameForms(f, g api.Form) bool {
	list := func(f api.Form) []api.Token {
		ts := append([]api.Token{}, f.Tokens...)
		for i := range ts {
			ts[i].Const = append([]uint64{}, ts[i].Const...)
		}
		return ts
	}
	fs, gs := list(f), list(g)
	f.Tokens, g.Tokens = nil, nil
	return reflect.DeepEqual(f, g) && reflect.DeepEqual(fs, gs)
}

// holdForm, holdEncode, holdDecode, holdStream, holdRun and holdTalk hold what a codec answers against the second look.
func holdForm(t *testing.T, c *sbe.Codec, again second, name string, version int) (api.Form, api.Errno) {
	t.Helper()
	got, e := c.Form(name, version)
	want, err := again.form(name, version)
	if e != err || !sameForms(got, want) {
		t.Fatalf("P26.2: Form(%q, %d) = %v, %v; want %v, %v", name, version, got, e, want, err)
	}
	return got, e
}

func holdEncode(t *testing.T, c *sbe.Codec, again second, name string, version int, m []api.Val) (string, api.Errno) {
	t.Helper()
	got, e := c.Encode(name, version, m)
	want, err := again.encode(name, version, m)
	if got != want || e != err {
		t.Fatalf("P26.3: Encode(%q, %d, %v) = %x, %v; want %x, %v", name, version, m, got, e, want, err)
	}
	return got, e
}

func holdDecode(t *testing.T, c *sbe.Codec, again second, reader int, s string) (string, []api.Val, int, api.Errno) {
	t.Helper()
	name, m, n, e := c.Decode(reader, s)
	wantName, wantTree, wantSize, err := again.decode(reader, s)
	if name != wantName || !sameNodes(m, wantTree) || n != wantSize || e != err {
		t.Fatalf("P26.4: Decode(%d, %x) = %q, %v, %d, %v; want %q, %v, %d, %v", reader, s, name, m, n, e, wantName, wantTree, wantSize, err)
	}
	return name, m, n, e
}

func holdStream(t *testing.T, c *sbe.Codec, again second, reader int, chunks [][]byte) ([]string, api.Errno) {
	t.Helper()
	whole := string(slices.Concat(chunks...))
	got, e := c.Stream(reader, chunks)
	want, err := again.stream(reader, whole)
	if !slices.Equal(got, want) || e != err {
		t.Fatalf("P26.5: Stream(%d, %x in %d chunks) = %q, %v; want %q, %v", reader, whole, len(chunks), got, e, want, err)
	}
	return got, e
}

func holdRun(t *testing.T, c *sbe.Codec, again second, name string, version int, buffer string, at int, calls string) ([]string, string, api.Errno) {
	t.Helper()
	b := []byte(buffer)
	got, now, e := c.Run(name, version, b, at, calls)
	want, wantNow, err := again.run(name, version, buffer, at, calls)
	if !slices.Equal(got, want) || string(now) != wantNow || e != err {
		t.Fatalf("P26.6: Run(%q, %d, %x, %d, %q) = %q, %x, %v; want %q, %x, %v", name, version, buffer, at, calls, got, now, e, want, wantNow, err)
	}
	if string(b) != buffer {
		t.Fatalf("P26.6: Run(%q, %d, %x, %d, %q) writes into the buffer that it is handed: %x", name, version, buffer, at, calls, b)
	}
	return got, string(now), e
}

func holdTalk(t *testing.T, schema string, again second, lines string) string {
	t.Helper()
	got, fault := sbe.Dialog(schema, lines)
	if want := again.talk(lines); got != want || fault != (api.Fault{}) {
		t.Fatalf("P26.7: %s tells %s, %v\nwant %s", short(lines), short(got), fault, short(want))
	}
	return got
}
