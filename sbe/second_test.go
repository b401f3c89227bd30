package sbe_test

import (
	"fmt"
	"regexp"
	"strings"
	"testing"

	"stencil/api"
	"stencil/canon"
	"stencil/codec"
	"stencil/dump"
	"stencil/evolve"
	"stencil/frame"
	"stencil/ir"
	"stencil/look"
	"stencil/number"
	"stencil/project"
	"stencil/schema"
	"stencil/script"
	"stencil/text"
	"stencil/value"
	"stencil/words"
)

// second is a second look at a codec, by the chapter's words alone: all is looked up anew each time, and nothing is kept but the schema.
type second struct{ s api.Schema }

func secondOf(t testing.TB, what string) second {
	t.Helper()
	s, e, at := schema.Load(what)
	if e != ok {
		t.Fatalf("no schema: %v at %d", e, at)
	}
	return second{s}
}

// whole is the form of the first message for which something holds.
func (c second) whole(holds func(p api.Part) bool) (api.Form, string, api.Errno) {
	for i, p := range c.s.Parts {
		if p.Depth == 1 && holds(p) {
			f, e := ir.Compile(c.s, i)
			return f, p.Name, e
		}
	}
	return api.Form{}, "", 260
}

func (c second) form(name string, version int) (api.Form, api.Errno) {
	f, _, e := c.whole(func(p api.Part) bool { return p.Name == name })
	if e != ok {
		return api.Form{}, e
	}
	return project.At(f, version)
}

func (c second) encode(name string, version int, m []api.Val) (string, api.Errno) {
	f, e := c.form(name, version)
	if e != ok {
		return "", e
	}
	return codec.Bytes(f, m)
}

// number reads the header's member of a name out of bytes; -1, where they aren't there.
func (c second) number(s, name string) int {
	head := c.s.Types[c.s.Header]
	if len(s) < head.Size {
		return -1
	}
	for _, m := range c.s.Types[c.s.Header+1:] {
		if m.Depth != 2 {
			break
		}
		if m.Name == name {
			n := 0
			for i := range m.Size {
				at := m.Offset + i
				if c.s.Order == api.Little {
					at = m.Offset + m.Size - 1 - i
				}
				n = n<<8 + int(s[at])
			}
			return n
		}
	}
	panic("no " + name)
}

// begun is the form of the message with which bytes begin, and its name.
func (c second) begun(s string) (api.Form, string, api.Errno) {
	id := c.number(s, "templateId")
	switch {
	case id < 0:
		return api.Form{}, "", 11
	case c.number(s, "schemaId") != c.s.ID:
		return api.Form{}, "", 191
	}
	return c.whole(func(p api.Part) bool { return p.ID == id })
}

func (c second) decode(reader int, s string) (string, []api.Val, int, api.Errno) {
	if reader < 0 || reader > c.s.Version {
		return "", nil, 0, 130
	}
	f, name, e := c.begun(s)
	if e != ok {
		return "", nil, 0, e
	}
	m, n, e := codec.Decode(f, reader, []byte(s), 0)
	if e != ok {
		return "", nil, 0, e
	}
	return name, m, n, ok
}

func (c second) print(name string, version int, m []api.Val) (string, api.Errno) {
	f, e := c.form(name, version)
	if e != ok {
		return "", e
	}
	return words.Print(f, m)
}

// line is what is told, or the error.
func line(s string, e api.Errno) string {
	if e != ok {
		return fmt.Sprintf("! E%d", int(e))
	}
	return s
}

func (c second) parcel(reader int, p api.Parcel) (string, api.Errno) {
	if (p.Type == 60240) != (c.s.Order == api.Little) {
		return "", 241
	}
	name, m, n, e := c.decode(reader, p.Body)
	if e != ok {
		return "", e
	}
	if n != len(p.Body) {
		return "", 240
	}
	s, e := c.print(name, reader, m)
	return name + " " + s, e
}

// stream is told what all chunks are together.
func (c second) stream(reader int, whole string) (lines []string, e api.Errno) {
	parcels, _, e := frame.Split(1048576+6, whole)
	for _, p := range parcels {
		lines = append(lines, line(c.parcel(reader, p)))
	}
	return lines, e
}

func (c second) run(name string, version int, buffer string, at int, calls string) ([]string, string, api.Errno) {
	f, e := c.form(name, version)
	if e != ok {
		return nil, "", e
	}
	b := []byte(buffer)
	lines := script.Write(f, b, at, calls)
	return lines, string(b), ok
}

// The lines that are commands, by their form: what must be there of each, and how much of it there is.
var commands = []*regexp.Regexp{
	regexp.MustCompile(`(?s)\A(messages|outline)( |)\z`),
	regexp.MustCompile(`(?s)\A(news|dump) (.+)\z`),
	regexp.MustCompile(`(?s)\A(form|nulls|decode|turn|get) ([^ ]+) (.+)\z`),
	regexp.MustCompile(`(?s)\A(encode) ([^ ]+) ([^ ]+) (.+)\z`),
}

// answer tells what one line tells, and how it was refused.
func (c second) answer(s string) ([]string, api.Errno) {
	var a []string
	for _, form := range commands {
		if m := form.FindStringSubmatch(s); m != nil {
			a = append(m[1:], "")
		}
	}
	if a == nil {
		return nil, 261
	}
	// Which of the arguments are numbers, and which hex.
	numbers := map[string]int{"news": 1, "form": 2, "nulls": 2, "encode": 2, "decode": 1, "turn": 1}
	hexes := map[string]int{"decode": 2, "dump": 1, "turn": 2, "get": 1}
	version, bytes := 0, ""
	for i := 1; i < len(a); i++ {
		var e api.Errno
		switch i {
		case numbers[a[0]]:
			version, e, _ = number.Int(a[i], 65534)
		case hexes[a[0]]:
			bytes, e, _ = text.Unhex(a[i])
		}
		if e != ok {
			return nil, e
		}
	}
	switch a[0] {
	case "messages":
		var out []string
		for _, p := range c.s.Parts {
			if p.Depth == 1 {
				out = append(out, fmt.Sprint(p.Name, " ", p.ID, p.Since, p.Block))
			}
		}
		return out, ok
	case "outline":
		return canon.Outline(c.s)
	case "news":
		return evolve.News(c.s, version)
	case "form", "nulls", "encode":
		return c.named(a, version)
	case "decode":
		name, m, n, e := c.decode(version, bytes)
		if e != ok {
			return nil, e
		}
		s, e := c.print(name, version, m)
		return []string{fmt.Sprint(name, " ", n, " ", s)}, e
	}
	f, _, e := c.begun(bytes)
	if e != ok {
		return nil, e
	}
	switch a[0] {
	case "dump":
		return dump.Lines(f, []byte(bytes), 0)
	case "turn":
		s, e := codec.Turn(f, bytes, version)
		return []string{text.Hex(s)}, e
	}
	return gotten(f, bytes, a[2])
}

// named tells what the commands tell that name a message.
func (c second) named(a []string, version int) ([]string, api.Errno) {
	f, e := c.form(a[1], version)
	if e != ok {
		return nil, e
	}
	switch a[0] {
	case "form":
		return ir.Show(f)
	case "nulls":
		m, e := value.Nulls(f)
		if e != ok {
			return nil, e
		}
		s, e := words.Print(f, m)
		return []string{s}, e
	}
	m, e, _ := words.Parse(f, a[3])
	if e != ok {
		return nil, e
	}
	s, e := c.encode(a[1], version, m)
	return []string{text.Hex(s)}, e
}

func gotten(f api.Form, bytes, path string) ([]string, api.Errno) {
	p, e, _ := look.Path(path)
	if e != ok {
		return nil, e
	}
	told, e := look.Get(f, []byte(bytes), 0, p)
	if e != ok {
		return nil, e
	}
	at := 0
	for _, step := range p {
		at = ir.Find(f, at, step.Name)
	}
	switch f.Tokens[at].Op {
	case api.BeginData:
		return []string{text.Quote(told.Text)}, ok
	case api.BeginGroup:
		return []string{fmt.Sprint(told.Count)}, ok
	}
	return []string{strings.Trim(strings.Join(strings.Fields(fmt.Sprint(told.Words)), ","), "[]")}, ok
}

// talk is what a talk must tell.
func (c second) talk(lines string) string {
	out := ""
	for _, s := range strings.Split(lines, "\n") {
		if strings.Trim(s, " \t\r") == "" {
			continue
		}
		told, e := c.answer(s)
		if e != ok {
			told = []string{line("", e)}
		}
		for _, s := range told {
			out += s + "\n"
		}
	}
	return out
}
