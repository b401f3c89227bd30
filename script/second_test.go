package script_test

import (
	"fmt"
	"regexp"
	"strings"

	"stencil/api"
	"stencil/dec"
	"stencil/enc"
	"stencil/number"
	"stencil/text"
)

// A second look at lines and scripts, by the chapter's words alone: a line is cut into its fields at once, and a script into its lines.
var (
	row    = regexp.MustCompile(`[^ ]+`)
	symbol = regexp.MustCompile(`\A[A-Za-z_][A-Za-z0-9_]{0,63}\z`)
	noCall = regexp.MustCompile(`(?s)\A[\t\n\r ]*(#.*)?\z`)
)

var kindOf = map[string]api.CallKind{"field": 0, "group": 1, "next": 2, "data": 3}

// parseAgain answers what Parse must.
func parseAgain(line string) (api.Call, api.Errno, int) {
	rows := row.FindAllStringIndex(line, -1)
	// Where there is no such field, it is as if one stood at the line's end.
	at := func(i int) int {
		if i < len(rows) {
			return rows[i][0]
		}
		return len(line)
	}
	part := func(i int) string {
		if i < len(rows) {
			return line[rows[i][0]:rows[i][1]]
		}
		return ""
	}
	kind, known := kindOf[part(0)]
	behind := 3
	switch {
	case !known:
		return api.Call{}, 250, at(0)
	case kind == 2:
		behind = 1
	case !symbol.MatchString(part(1)):
		return api.Call{}, 250, at(1)
	}
	c := api.Call{Kind: kind, Name: part(1)}
	var e api.Errno
	n, end := 0, at(behind)
	switch {
	case kind == 2:
		c.Name = ""
	case part(2) == "":
	case kind == 0:
		c.Words, e, n = number.List(api.Uint64, part(2))
	case kind == 1:
		c.Count, e, n = number.Int(part(2), 4294967295)
	case kind == 3:
		rest := line[at(2):]
		c.Text, n, e = text.Unquote(rest)
		end = len(line) - len(strings.TrimLeft(rest[n:], " "))
	}
	if e != ok {
		return api.Call{}, e, at(2) + n
	}
	if end < len(line) {
		return api.Call{}, 250, end
	}
	return c, ok, 0
}

// toldAgain answers what Told must.
func toldAgain(c api.Call, t api.Told, e api.Errno) string {
	var list []string
	for _, w := range t.Words {
		list = append(list, fmt.Sprint(w))
	}
	switch {
	case e != ok:
		return fmt.Sprintf("! E%d", int(e))
	case c.Kind == 0:
		return strings.TrimSpace("= " + strings.Join(list, ","))
	case c.Kind == 1:
		return fmt.Sprint("= ", t.Count)
	case c.Kind == 3:
		return "= " + text.Quote(t.Text)
	}
	return "ok"
}

// linesOf are those of a script that are calls, or should be.
func linesOf(s string) (lines []string) {
	for _, line := range strings.Split(s, "\n") {
		if !noCall.MatchString(line) {
			lines = append(lines, line)
		}
	}
	return lines
}

// again is what a script must be told as, by what a flyweight does.
func again(s, first string, do func(c api.Call) string, done func() bool) []string {
	out := []string{first}
	for i, line := range linesOf(s) {
		if i == 20000 {
			out = append(out, "! E251")
			break
		}
		if c, e, _ := parseAgain(line); e != ok {
			out = append(out, fmt.Sprintf("! E%d", int(e)))
		} else {
			out = append(out, do(c))
		}
	}
	if done() {
		return append(out, "done")
	}
	return append(out, "open")
}

// writeAgain and readAgain answer what Write and Read must.
func writeAgain(f api.Form, b []byte, at int, s string) []string {
	e, err := enc.New(f)
	if err == ok {
		err = e.Wrap(b, at)
	}
	if err != ok {
		return []string{"! " + err.Error()}
	}
	return again(s, fmt.Sprint("ok ", e.End()), func(c api.Call) string {
		if err := e.Do(c); err != ok {
			return fmt.Sprintf("! E%d", int(err))
		}
		return fmt.Sprint("ok ", e.End())
	}, e.Done)
}

func readAgain(f api.Form, reader int, b []byte, at int, s string) []string {
	d, err := dec.New(f, reader)
	if err == ok {
		err = d.Wrap(b, at)
	}
	if err != ok {
		return []string{"! " + err.Error()}
	}
	return again(s, fmt.Sprint("ok ", d.Acting()), func(c api.Call) string {
		t, err := d.Do(c)
		return toldAgain(c, t, err)
	}, d.Done)
}
