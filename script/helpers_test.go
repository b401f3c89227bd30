package script_test

import (
	"fmt"
	"reflect"
	"slices"
	"strconv"
	"strings"
	"testing"

	"stencil/api"
	"stencil/ir"
	"stencil/schema"
	"stencil/script"
)

const ok = api.OK

// types are those of all schemas here.
const types = `<types>
<composite name="messageHeader"><type name="blockLength" primitiveType="uint16"/><type name="templateId" primitiveType="uint16"/><type name="schemaId" primitiveType="uint16"/><type name="version" primitiveType="uint16"/></composite>
<composite name="groupSizeEncoding"><type name="blockLength" primitiveType="uint16"/><type name="numInGroup" primitiveType="uint8"/></composite>
<composite name="wide"><type name="blockLength" primitiveType="uint16"/><type name="numInGroup" primitiveType="uint32"/></composite>
<composite name="short"><type name="length" primitiveType="uint8"/><type name="varData" primitiveType="char" length="0"/></composite>
<composite name="long"><type name="length" primitiveType="uint32"/><type name="varData" primitiveType="uint8" length="0"/></composite>
<composite name="pair"><type name="one" primitiveType="int16"/><type name="gap" primitiveType="uint8" presence="constant">1</type><type name="two" primitiveType="uint32" offset="4"/></composite>
<type name="chars" primitiveType="char" length="3"/>
<type name="many" primitiveType="uint16" length="30000"/>
</types>`

// The parts of messages: chapter has those of the chapter's example; grown has some of all kinds, and of each version.
const (
	chapter = `<field name="a" id="1" type="uint8"/><data name="d" id="2" type="short"/>`
	grown   = `<field name="a" id="1" type="uint8"/><field name="p" id="2" type="pair"/><field name="c" id="3" type="chars"/>
<field name="f" id="4" type="double" presence="optional" sinceVersion="1"/>
<group name="g" id="5"><field name="x" id="6" type="uint8"/><group name="h" id="7" dimensionType="wide"><field name="a" id="8" type="int64"/></group><data name="e" id="9" type="short"/></group>
<group name="i" id="10" sinceVersion="1"><field name="x" id="11" type="int8" sinceVersion="1"/></group>
<data name="d" id="12" type="short" sinceVersion="1"/><data name="n" id="13" type="long" sinceVersion="2"/>`
)

// made is the form of the message M, of the id 3, in the schema 7 of a version.
func made(t testing.TB, version int, order, parts string) api.Form {
	t.Helper()
	s, e, at := schema.Load(fmt.Sprintf(`<messageSchema package="p" id="7" version="%d" byteOrder="%s">%s<message name="M" id="3">%s</message></messageSchema>`, version, order, types, parts))
	if e != ok {
		t.Fatalf("%s is no schema: %v at %d", parts, e, at)
	}
	f, e := ir.Compile(s, schema.Message(s, "M"))
	if e != ok {
		t.Fatalf("%s has no form: %v", parts, e)
	}
	return f
}

func little(t testing.TB, version int, parts string) api.Form {
	t.Helper()
	return made(t, version, "littleEndian", parts)
}

func field(name string, words ...uint64) api.Call {
	return api.Call{Kind: api.CallField, Name: name, Words: words}
}

func group(name string, n int) api.Call {
	return api.Call{Kind: api.CallGroup, Name: name, Count: n}
}

func next() api.Call { return api.Call{Kind: api.CallNext} }

func data(name, s string) api.Call { return api.Call{Kind: api.CallData, Name: name, Text: s} }

// same tells whether two calls are alike, where no list is an empty one.
func same(a, b api.Call) bool {
	return a.Kind == b.Kind && a.Name == b.Name && slices.Equal(a.Words, b.Words) && a.Count == b.Count && a.Text == b.Text
}

// short is a text for a report.
func short(s string) string {
	q := strconv.QuoteToASCII(s)
	return q[:min(len(q), 300)]
}

func shown(x any) string { return short(fmt.Sprintf("%+v", x)) }

// means asks what a line must mean.
func means(t *testing.T, line string, want api.Call) {
	t.Helper()
	if c, e, at := script.Parse(line); !same(c, want) || e != ok || at != 0 {
		t.Errorf("P25.1: Parse(%s) = %s, %v, %d; want %s", short(line), shown(c), e, at, shown(want))
	}
}

// refuses asks for a line's fault, beside which there is nothing.
func refuses(t *testing.T, line string, want api.Errno, place int) {
	t.Helper()
	if c, e, at := script.Parse(line); !reflect.DeepEqual(c, api.Call{}) || e != want || at != place {
		t.Errorf("P25.1: Parse(%s) = %s, %v, %d; want %v, %d", short(line), shown(c), e, at, want, place)
	}
}

// prints asks for a call's line, noLine that it has none.
func prints(t *testing.T, c api.Call, want string) {
	t.Helper()
	if s, e := script.Print(c); s != want || e != ok {
		t.Errorf("P25.2: Print(%s) = %s, %v; want %s", shown(c), short(s), e, short(want))
	}
}

func noLine(t *testing.T, c api.Call) {
	t.Helper()
	if s, e := script.Print(c); s != "" || e != api.ErrLine {
		t.Errorf("P25.2: Print(%s) = %s, %v; want %v", shown(c), short(s), e, api.ErrLine)
	}
}

// told holds the lines of a script against those that must be told, which stand with one byte 10 between each two.
func told(t *testing.T, what string, got []string, want string) {
	t.Helper()
	if s := strings.Join(got, "\n"); s != want || len(got) != strings.Count(want, "\n")+1 {
		t.Errorf("%s tells %s\nwant %s", what, short(s), short(want))
	}
}

// writes plays a script over so many bytes 255, and answers them.
func writes(t *testing.T, f api.Form, size, at int, s, want string) string {
	t.Helper()
	b := slices.Repeat([]byte{255}, size)
	told(t, "P25.4: "+short(s), script.Write(f, b, at, s), want)
	return string(b)
}

// reads plays a script over bytes, which must stay as they are.
func reads(t *testing.T, f api.Form, reader int, bytes string, at int, s, want string) {
	t.Helper()
	b := []byte(bytes)
	told(t, "P25.5: "+short(s), script.Read(f, reader, b, at, s), want)
	if string(b) != bytes {
		t.Errorf("P25.5: %s: the buffer is written to", short(s))
	}
}

// written are the bytes of a message that a script of lines makes, which must be taken.
func written(t testing.TB, f api.Form, lines ...string) string {
	t.Helper()
	b := make([]byte, 1<<17)
	out := script.Write(f, b, 0, strings.Join(lines, "\n"))
	end := 0
	for _, line := range out[:len(out)-1] {
		n, err := strconv.Atoi(strings.TrimPrefix(line, "ok "))
		if err != nil {
			t.Fatalf("%q: %q", lines, out)
		}
		end = n
	}
	if out[len(out)-1] != "done" {
		t.Fatalf("%q isn't done", lines)
	}
	return string(b[:end])
}
