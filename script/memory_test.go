package script_test

import (
	"reflect"
	"runtime"
	"slices"
	"strings"
	"testing"
	"unsafe"
	"weak"

	"stencil/api"
	"stencil/script"
)

// within tells whether a text lies in another one's memory.
func within(s, whole string) bool {
	if s == "" || whole == "" {
		return false
	}
	at, from := uintptr(unsafe.Pointer(unsafe.StringData(s))), uintptr(unsafe.Pointer(unsafe.StringData(whole)))
	return at < from+uintptr(len(whole)) && from < at+uintptr(len(s))
}

// P0.1: a call that was read has nothing of the line's memory, nor of another call's.
func TestParseAnswersNew(t *testing.T) {
	for _, s := range []string{"field price 1,2,3", "group legs_and_more 12", `data note "just as it stands"`, `data note "a\x41"`, "next"} {
		line := strings.Clone(s)
		c, e, _ := script.Parse(line)
		again, _, _ := script.Parse(line)
		if e != ok || within(c.Name, line) || within(c.Text, line) || within(c.Name, again.Name) || within(c.Text, again.Text) {
			t.Errorf("P0.1: Parse(%s) keeps the line's memory", s)
		}
		for i := range again.Words[:cap(again.Words)] {
			again.Words[:cap(again.Words)][i] = 99
		}
		means(t, s, c)
		if back, _, _ := parseAgain(s); !same(c, back) {
			t.Errorf("P0.1: %s: the words of two answers are one list", s)
		}
	}
}

// P0.1: what is printed and told is new, and what is handed in isn't changed, nor the room behind it.
func TestPrintAndToldLeaveAll(t *testing.T) {
	words := []uint64{1, 2, 3, 77, 78}
	name, what := strings.Clone("some_name"), strings.Clone("some text")
	for _, c := range []api.Call{field(name, words[:3]...), field(name), group(name, 3), next(), data(name, what), {Kind: 9, Words: words[:3]}} {
		c.Words = c.Words[:len(c.Words):cap(c.Words)]
		s, _ := script.Print(c)
		x := script.Told(c, api.Told{Words: words[:3], Count: 4, Text: what}, ok)
		for _, s := range []string{s, x} {
			if within(s, name) || within(s, what) {
				t.Errorf("P0.1: %s is the caller's memory", s)
			}
		}
		if !slices.Equal(words, []uint64{1, 2, 3, 77, 78}) {
			t.Errorf("P0.1: the words are changed: %d", words)
		}
	}
}

// roomy is a form whose lists have room behind them, and opened all that is in it.
func roomy(f api.Form) api.Form {
	behind := api.Token{Op: api.Choice, Name: "behind", Const: []uint64{7}}
	f.Tokens = append(slices.Clone(f.Tokens), behind, behind)[:len(f.Tokens)]
	for i := range f.Tokens {
		f.Tokens[i].Const = append(slices.Clone(f.Tokens[i].Const), 77, 78)[:len(f.Tokens[i].Const)]
	}
	return f
}

func opened(f api.Form) []api.Token {
	all := slices.Clone(f.Tokens[:cap(f.Tokens)])
	for i := range all {
		all[i].Const = slices.Clone(all[i].Const[:cap(all[i].Const)])
	}
	return all
}

// P0.1, P25.6: the form stays as it is, and of the buffer what lies ahead of the message and behind what is claimed, the room behind its length too; a reader changes none of it.
func TestFormAndBufferStay(t *testing.T) {
	f := roomy(little(t, 2, grown))
	was := opened(f)
	for _, size := range []int{69, 68, 60, 49, 30, 28, 27, 8, 0} {
		whole := slices.Repeat([]byte{0xEE}, 100)
		b := whole[5 : 5+4+size : 90]
		out := script.Write(f, b, 4, all+"data n \"more\"\n")
		end := len(b)
		if size == 69 {
			end = 4 + 69
		}
		if strings.Trim(string(whole[:9]), "\xee") != "" || strings.Trim(string(whole[5+end:]), "\xee") != "" {
			t.Errorf("P0.4: of %d bytes others are written: %x", size, whole)
		}
		kept := strings.Join(out, "\n")
		for _, reader := range []int{0, 1, 2, 3} {
			before := string(whole)
			script.Read(f, reader, b, 4, all)
			if string(whole) != before {
				t.Errorf("P0.4: a reader of %d writes", reader)
			}
		}
		if !reflect.DeepEqual(opened(f), was) {
			t.Fatal("P0.1: the form is changed")
		}
		for i := range whole {
			whole[i] = 0x11
		}
		told(t, "P25.6", out, kept)
	}
}

// P0.1: no two lists that are answered share memory, room behind them too.
func TestLinesAreNew(t *testing.T) {
	f := little(t, 2, grown)
	for range 2 {
		b := make([]byte, 69)
		first := script.Write(f, b, 0, all)
		second := script.Write(f, b, 0, all)
		third := script.Read(f, 2, b, 0, "field a\n"+all)
		for _, list := range [][]string{second, third} {
			list = list[:cap(list)]
			for i := range list {
				list[i] = "spoilt"
			}
		}
		told(t, "P0.1", first, allTold)
	}
}

// P25.6: the buffer is kept by no call: it is given up while what was told is still there.
func TestBufferIsGivenUp(t *testing.T) {
	f := little(t, 2, grown)
	var lines [][]string
	var left []weak.Pointer[[200]byte]
	play := func(size int, do func(b []byte) []string) {
		b := new([200]byte)
		copy(b[:], allBytes)
		left = append(left, weak.Make(b))
		lines = append(lines, do(b[:size]))
	}
	for _, s := range []string{all, "", "jump\n", "field a 7\n", strings.Repeat("field a 7\n", 20001)} {
		for _, size := range []int{200, 69, 40, 10, 0} {
			play(size, func(b []byte) []string { return script.Write(f, b, 0, s) })
			play(size, func(b []byte) []string { return script.Read(f, 2, b, 0, s) })
		}
	}
	runtime.GC()
	runtime.GC()
	for i, p := range left {
		if p.Value() != nil {
			t.Errorf("P25.6: the buffer of call %d is kept", i)
		}
	}
	runtime.KeepAlive(lines)
}

// P0.1: what is answered hangs on the arguments and the buffer alone: not on what was asked before.
func TestAgain(t *testing.T) {
	f, g := little(t, 2, grown), little(t, 1, chapter)
	for range 5 {
		writes(t, f, 69, 0, all, allTold)
		writes(t, g, 12, 0, "field a 7\ndata d \"hi\"", "ok 9\nok 9\nok 12\ndone")
		writes(t, g, 12, 0, "field a 7\ndata d \"hello\"", "ok 9\nok 9\n! E11\nopen")
		reads(t, f, 2, allBytes, 0, "field a\ngroup g", "ok 2\n= 7\n= 2\nopen")
		means(t, "field a 1", field("a", 1))
		refuses(t, "field a 1 2", api.ErrLine, 10)
		means(t, "field a", field("a"))
		means(t, "data d", data("d", ""))
		prints(t, group("g", 0), "group g 0")
	}
}
