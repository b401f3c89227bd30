package script_test

import (
	"strings"
	"testing"

	"stencil/api"
	"stencil/script"
)

// ended asks that a script is told so many lines behind the first, the last but one of them ErrDone if it must, and the last one as it must be.
func ended(t *testing.T, what string, lines []string, calls int, isDone bool, last string) {
	t.Helper()
	want := 1 + calls + 1
	if isDone {
		want++
	}
	if len(lines) != want {
		t.Fatalf("%s: %d lines are told, not %d", what, len(lines), want)
	}
	for i, line := range lines {
		if (line == "! E251") != (isDone && i == len(lines)-2) {
			t.Fatalf("%s: line %d is %s", what, i, short(line))
		}
	}
	if lines[len(lines)-1] != last {
		t.Errorf("%s: the last line is %s, not %s", what, short(lines[len(lines)-1]), last)
	}
}

// P25.4, P25.5: a script has at most 20000 lines of calls; lines that are passed over aren't counted, those that are refused are.
func TestMaxCalls(t *testing.T) {
	f := little(t, 1, chapter)
	b := []byte(written(t, f, "field a 7", "data d"))
	const most = api.MaxCalls
	for call, unit := range map[string]string{"taken": "field a 7\n", "with lines between": "\n# x\n field a 9\n \t\n#\n", "no line": "jump\n", "refused": "next\n", "no text": "data d x\n"} {
		for n := most - 1; n <= most+2; n++ {
			s := strings.Repeat(unit, n)
			for _, s := range []string{s, "\n# x\n" + s + "\n#\n# field a 7\n \t\n", strings.TrimRight(s, "\n") + "\n"} {
				out := script.Write(f, make([]byte, 20), 0, s)
				ended(t, "P25.4: "+call, out, min(n, most), n > most, "open")
				out = script.Read(f, 1, b, 0, s)
				ended(t, "P25.5: "+call, out, min(n, most), n > most, "open")
			}
		}
	}
}

// P25.4, P25.5: what stands behind the last call that may be isn't played, and the last line is told all the same.
func TestBehindMaxCalls(t *testing.T) {
	f := little(t, 1, chapter)
	const most = api.MaxCalls
	for _, behind := range []string{"field a 9", "data d \"x\"", "jump", "x\n\nfield a 9", "next\ndata d \"x\"", "field a 9\n# x\n" + strings.Repeat("data d\n", most)} {
		b := make([]byte, 20)
		ended(t, "P25.4: "+behind, script.Write(f, b, 0, strings.Repeat("field a 7\n", most)+behind), most, true, "open")
		if want := "\x01\x00\x03\x00\x07\x00\x01\x00\x07" + strings.Repeat("\x00", 11); string(b) != want {
			t.Errorf("P25.4: %s: the bytes are %x", short(behind), b)
		}
		s := strings.Repeat("field a 7\n", most-1) + "data d \"x\"\n"
		ended(t, "P25.4: "+behind, script.Write(f, b, 0, s+behind), most, true, "done")
		ended(t, "P25.5: "+behind, script.Read(f, 1, b, 0, s+behind), most, true, "done")
		ended(t, "P25.4: nothing", script.Write(f, b, 0, s), most, false, "done")
		ended(t, "P25.5: nothing", script.Read(f, 1, b, 0, s), most, false, "done")
	}
	// A message that isn't begun has no lines to be counted.
	told(t, "P25.4", script.Write(f, nil, 0, strings.Repeat("next\n", most+1)), "! E11")
}
